import PyProof.Rows.All
import Wide.All
import OpenK.AllK
import Wide.FinOn
import PyProof.EqAt
import PyProof.EqKinds
import PyProof.TupleCall
import KE.BitLaws
import Open.SpecLaws
import KE.OsHead
import KE.OsGo
import PyProof.SetScanFacts
import PyProof.SetKind
import PyProof.DictKinds
import PyProof.Rows.SetFrom
import PyProof.DictItems
import PyProof.FactsAll.set_1
import PyProof.WalksS
import PyProof.Seq
import PyProof.Rows.SortShellAny
import PyProof.Rows.SortWalk
import PyProof.ListNew
import PyProof.ZipIter
import PyProof.StrBlock
import PyProof.Rows.StrIntSpec
import VbmiamSpec
import PySem.Challenge.RW_tonnebook_s01_answers
import PyVbmiam
set_option Elab.async false
namespace PySem.W.Fast
def tw12469865521192509021:=()
def tw1031877875360019716:=()
def tw12746196822674414418:=()
def tw8952623408469483955:=()
def tw11370411241013464057:=()
def tw6414764480856040661:=()
def tw17969007436239862111:=()
def tw7521606635165497713:=()
def tw11193971366941594340:=()
def tw5834613359201434949:=()
def tw7741420245897290636:=()
def tw9439558901903635818:=()
def tw5015736815093469566:=()
def tw11436768903678644025:=()
def tw899809937586536759:=()
def tw4638075941184352064:=()
def tw6619731838271494812:=()
def tw3013960600335031752:=()
def tw6118884041727634018:=()
def tw13985986988562757909:=()
def tw8402737331367203016:=()
def tw8819902965261913470:=()
def tw2593183142974123058:=()
def tw1311390833244978357:=()
def tw17101277871086851947:=()
def tw13364734485160603959:=()
def tw12624083123466379447:=()
def tw1020121097852996687:=()
def tw11675818851693322225:=()
def tw1107699243540518233:=()
def tw7085449417076073615:=()
def tw7238980421092374941:=()
def tw9050068503706374517:=()
def tw9503358996004729786:=()
def tw13557202177361521816:=()
def tw15885371938799785783:=()
def tw7344707765447498309:=()
def tw10002787405945992125:=()
def tw12075269938530475088:=()
def tw18251961368839912437:=()
def tw4463805585107393875:=()
def tw11105404110329618632:=()
def tw11941045153964371826:=()
def tw11415992391689635510:=()
def tw3335695583039118899:=()
def tw1292479736667280129:=()
def tw2599740960001013064:=()
def tw7180553846092337800:=()
def tw8796589374354500253:=()
def tw7809227777784417149:=()
def tw12035125926167965903:=()
def tw2295429592959986379:=()
def tw12757221049947655586:=()
def tw8963696808570539708:=()
def tw9751392534981368120:=()
def tw16237128604297372616:=()
def tw2304532484171783204:=()
def tw16906264424801728879:=()
def tw6769674547048898549:=()
def tw3280316719575945186:=()
def tw4384353014150208354:=()
def tw275790645986132898:=()
def tw3890143416725371529:=()
def tw12404880770269207469:=()
def tw7855411247492220746:=()
def tw15201786979699787831:=()
def tw8166365622519208407:=()
def tw1388992146820974882:=()
def tw18241502576978743490:=()
def tw9854324932030417160:=()
def tw700410772504352809:=()
def tw3567932345111865845:=()
def tw16980385480170882012:=()
def tw1644103200879573340:=()
def tw9118422207065878540:=()
def tw6071737535476813485:=()
def tw2036761368629564864:=()
def tw10367702983226754090:=()
def tw4923758583802247365:=()
def tw2259157807051407291:=()
def tw2131549729357565063:=()
def tw5015169017011714465:=()
def tw6318794208440397682:=()
def tw4624009814486181047:=()
def tw10209532630837189429:=()
def tw912262607616684085:=()
def tw17291749086502105048:=()
def tw18146000658690905181:=()
def tw11932791908297191416:=()
def tw1370804720215786508:=()
def tw13728115952509950984:=()
def tw10373143110460457468:=()
def tw14754619093539659034:=()
def tw9891173459382708084:=()
def tw7540255580810432568:=()
def tw5295435220460478993:=()
def tw7288993257112599318:=()
def tw7333674608952295488:=()
def tw17206226352675967402:=()
def tw1687430033191443404:=()
def tw16108313198138333579:=()
def tw3095770109886961445:=()
def tw13795196964666482102:=()
def tw10560971686120567294:=()
def tw407628939359801192:=()
def tw18067779672906080300:=()
def tw6566930045999648340:=()
def tw8512676804109402894:=()
def tw12806211219284569092:=()
def tw3270413472600475435:=()
def tw15593305110376104699:=()
def tw10324235831102775508:=()
def tw9851980182005344694:=()
def tw5803531771679704449:=()
def tw9036230646261617102:=()
def tw2376101294047564286:=()
def tw9434401284601083884:=()
def tw12453303538422764089:=()
def tw10132540220052674257:=()
def tw17651840925037633377:=()
def tw12267517847748766978:=()
def tw3632247572695336634:=()
def tw16174899353437769519:=()
def tw8505518551538233007:=()
def tw17984403339272383363:=()
def tw7572169804277653130:=()
def tw14707640452994895860:=()
def tw783530153727622938:=()
def tw4355107538166062921:=()
def tw4795759653538707775:=()
def tw16282878907004319353:=()
def tw7189853771838924809:=()
def tw968676955376688282:=()
def tw11713127959530173889:=()
def tw11782887076634353371:=()
def tw92602854419785264:=()
def tw849767464798721062:=()
def tw171511259512517861:=()
def tw8071683825514885111:=()
def tw1738923969650148787:=()
def tw15788536952255027944:=()
def tw3271714323904218468:=()
def tw10924795020537805042:=()
def tw2394635281819802629:=()
def tw15757687616255472898:=()
def tw16592663958322887722:=()
def tw4812540664514549308:=()
def tw3489476268105515428:=()
def tw416499944474372609:=()
def tw7974181182954879763:=()
def tw8173553923498807090:=()
def tw5490079444577175063:=()
def tw15936036325650670391:=()
def tw9876595563654559147:=()
def tw295510560714631960:=()
def tw14691582523814870549:=()
def tw744843688996289560:=()
def tw10286263400822211554:=()
def tw4385327842411438804:=()
def tw15002348155977219777:=()
def tw17481893943998277712:=()
def tw7033453646815274941:=()
def tw10133001159343304606:=()
def tw14534261814919727682:=()
def tw15042560668995039877:=()
def tw593154221462331543:=()
def tw16461114515617611857:=()
def tw3012358412923587127:=()
def tw1465142877899670871:=()
def tw4358544997189444381:=()
def tw5232890549039230034:=()
def tw3573866568455771941:=()
def tw11832350127411117397:=()
def tw7007361947061942162:=()
def tw8230004025499580707:=()
def tw12161441836263116353:=()
def tw14057914429689850927:=()
def tw11125553573832698865:=()
def tw3784101131030587858:=()
def tw16624561636646787110:=()
def tw5207224000204145698:=()
def tw1662273795101613629:=()
def tw10194578186038991926:=()
def tw17795869878525776621:=()
def tw8265914919445083116:=()
def tw2979265858759058422:=()
def tw4223064458710272630:=()
def tw6154322132807652301:=()
def tw15382789211179512145:=()
def tw11790743376555870460:=()
def tw9155088176153183858:=()
def tw14729457957874242334:=()
def tw3331797540242852698:=()
def tw13327897524471356551:=()
end PySem.W.Fast
set_option maxRecDepth 100000 in
set_option maxHeartbeats 0 in
def Hd0:{p:Prop//p->PySem.Challenge.rw_tonnebook_s01_answers.Holds}:=by
 apply Subtype.mk
 intro z
 have w:PySem.Challenge.rw_tonnebook_s01_answers.wellSaid=true:=by decide+kernel
 refine (let_mvar% ?hc:=z;?k)
 w_on;k_headS;(case hw=>exact ⟨[.list [.int 2]],by decide+kernel,by decide+kernel⟩)
@[reducible]def aa{T:Prop}(_:T):Prop:=T
theorem aj{T:Prop}(h:T):aa h:=h
open Array renaming length_toList->gb,getElem?_eq_getElem->jO,getElem?_toList->qL,getElem?_eq_none->xR,toList_push->Wy,toList->aiv
open Bool renaming and_eq_true->bf,false_ne_true->cu,false_eq_true->cD,and_true->dF,true_and->dJ,false_and->eO,and_false->gj,not_false->gn,noConfusion->gq,not_true->gV,eq_iff_iff->iy,and_eq_false_iff->jP,not_not->j8,or_eq_true->Cy,and_eq_true_iff->QX,or_false->afE,not_and->aiu
open Char renaming toNat->Vx
open False renaming elim->gZ
open ForInStep renaming yield->Ox
open Int renaming toNat_natCast->gA
open List renaming getElem?_eq_getElem->ak,length_map->ao,length_cons->aH,length_append->aJ,mem_of_getElem?->aM,getElem?_eq_some_iff->aQ,mem_cons_of_mem->aV,getElem?_map->aW,mem_cons->bc,map_cons->bu,replicate->bx,mem_cons_self->bz,length_nil->bF,zipWith->bM,size_toArray->bN,length_take->bO,not_mem_nil->bU,length_drop->cA,getD_eq_getElem?_getD->cC,mem_map->cF,map_map->cG,map_append->cT,all_eq_true->dH,take_of_length_le->dR,mem_append->d8,getElem?_append_left->eG,getElem?_append_right->fB,mem_singleton->fJ,replicate_succ->fM,getElem?_set_self->fQ,getElem?_set_ne->fV,filterMap_cons->fZ,map_congr_left->gm,flatMap_cons->gw,drop_eq_nil_of_le->gH,drop_drop->gO,getElem?_eq_none->gY,append_nil->iw,lookup_cons->iC,range->iR,length_zipWith->iT,drop_append_of_le_length->iZ,mem_append_right->jd,map_nil->jE,find?_cons->jK,mem_or_eq_of_mem_set->jN,take_length->lM,length_replicate->mD,findIdx?_eq_some_iff_getElem->mK,nil_append->mO,flatten_cons->mY,append_assoc->mZ,flatMap_append->oF,drop_zero->oG,nodup_cons->pW,length_set->pX,ext_getElem?->rm,filter_cons->tQ,all_map->tR,pairwise_iff_getElem->ug,map_take->uA,any_cons->uB,mem_filter->vY,getElem?_drop->v8,lookup->wk,length->wu,nodup_nil->xO,length_filter_le->yR,getElem?_zipWith->yS,isEmpty_iff->zc,map_drop->Af,take_append_of_le_length->Al,mem_iff_getElem->Am,eq_nil_of_length_eq_zero->Ao,range_succ->Cv,set_set->Dz,mem_filterMap->Fb,findIdx?_cons->Fd,filter_append->Fe,mem_of_find?_eq_some->Gm,getElem?_zip_eq_some->Gn,findIdx?_eq_none_iff->Gp,range'->Ji,nodup_append->Jj,mem_range'_1->Jk,not_all_eq_any_not->JW,any_eq_true->JX,range_succ_eq_map->Od,of_mem_zip->Ou,foldl_cons->Ov,take_append_drop->Pu,getElem?_zipIdx->QT,getElem?_of_mem->QV,forIn_nil->QW,zip_eq_zipWith->S7,length_pos_iff->S8,all_cons->UT,length_zipIdx->Vu,foldl_append->Wu,any_map->Wv,zipIdx_cons->ZK,getElem_mem->ZL,cons_append->ZM,forIn_cons->aby,mem_range->adq,getElem?_eq_none_iff->afn,take_append_getElem->afz,length_filterMap_le->afA,Pairwise->afB,length_eq_zero_iff->ahg,getElem?_cons_zero->ahh,getElem?_cons_succ->ahi,cons->ahj,Perm->ahk,pairwise_lt_range->ais,mem_iff_getElem?->aki,length_singleton->akj,contains_iff_mem->akk,mem_of_mem_take->akE,mem_append_left->akF,length_eraseIdx->akG,getElem?_modify->akH,drop_eq_nil_iff->akI
open List.cons renaming injEq->Ow
open Nat renaming le_refl->aU,le_trans->aY,ne_of_lt->b8,lt_of_lt_of_le->cM,zero_le->eX,le_add_right->gU,lt_irrefl->je,lt_succ_of_lt->jD,lt_succ_self->jY,toDigits->j6,ne_of_gt->j7,zero_add->mX,sub_self->pQ,min_self->xM,lt_trans->xN,pow_le_pow_right->Aj,le_succ->Ak,min_eq_left->Cu,le_of_lt->Dv,le_of_eq->Dy,le_of_succ_le->Jh,lt_or_ge->Oc,mul_le_mul_right->QS,mul_le_mul_left->S6,mod_lt->Vr,lt_of_le_of_lt->Vs,eq_zero_or_pos->Vt,lt_trichotomy->Wr,add_zero->Ws,add_comm->Wt,min_eq_right->ZJ,toDigits_of_lt_base->ahd,toDigits_of_base_le->ahe,add_sub_cancel_left->ahf,sub_zero->aiq,mul_comm->air,add_sub_add_right->akh,mul_one->akB,mul_add->akC,add_le_add_right->akD
open Ne renaming symm->cO
open Option renaming some->aP,map_eq_some_iff->dO,isSome_some->gG,isSome_none->jk,getD_some->jX,map_some->vX,getD_none->JV,map_none->Ot,isSome_map->Wq,bind_some->ZG,map_map->adp,isSome_iff_exists->afx,bind_eq_some_iff->ahc
open Option.some renaming inj->aB
open Or renaming inl->dZ,inr->gF
open Prod renaming mk->iY
open Prod.mk renaming inj->eV
open PyFlat renaming played->Ad,told->Jg,calls->Ob,rows->QR,call->akz
open PyProof.Rows renaming callWith_type1->lH,callWith_builtin1->ZF
open PyProof.Rows.F renaming plain_set_update_loop->ux,entry_set_update_loop->S5
open PySem renaming boot_len->bI,Spec->di,mem_of_lookup->dY,Str->SM,evalArgs_none->SQ,Builtin->UL,Within->Wm
open PySem.Around renaming under_plainId->il,under->aiw
open PySem.Builtin.Dict renaming updateFrom->ahl
open PySem.Builtin.List renaming listTooLong->uC,listLengthHint->adl,listExtendWith->adm,listSameRef->afD
open PySem.Builtin.SmallTypes renaming ownedTupleIsFree->lK,nextOf->uh,ownedTupleHandOut->Tc
open PySem.Builtin.Str renaming strKind->iU,occurrences->J1,strKind->afm,partsBetween->afC
open PySem.Calls renaming spliced_cons->jl,spliced_nil->m5,callWith_builtin->pR,evalArgs_plain->rG,Name_function_global->adu
open PySem.Challenge renaming rw_tonnebook_s01_answers->bD
open PySem.Code renaming isFrame->ait
open PySem.Data renaming seq->adt
open PySem.F renaming plainAttrs_list->bY,type_list_extend->fc,slot_list_extend->fj,type_list_append->gQ,slot_list_append->gR,slot_dict_get->jc,called_set->jW,entry_dict_get->pP,plain_extend_loop->uf,slot_zip_next->yQ,slot_list_getattribute->za,slot_dict_items->Jm,plainAttrs_dict->JS,args_dict_get_3->JT,slot_str_split->JZ,type_dict_get->Pr,called_enumerate->Vv,args_str_split_2->Vw,plainAttrs_dict->Ww,entry_str_split->Wx,entry_extend_loop->afl,slot_tuple_index->afw,plain_list_iadd->ag9,args_zip_next_1->aha,args_dict_get_2->ahb,entry_zip_next->aip,slot_set_iter->akf,plain_set_new->akg
open PySem.Heap renaming get?_push_of_some->aA,get?_push_size->aR,lt_size->aZ,size_push->cQ,SameBut->jj,get?_update_self->qK,get?_update_other->xP,IsList->Jl,ExtBut->aaM
open PySem.Heap.SameBut renaming update->S9
open PySem.NameKind renaming free->Ae,cell->afy
open PySem.Obj renaming mapSeq->zb,putSet->Vq
open PySem.Paired renaming length->jy,snoc->akA
open PySem.PassesOwn renaming never->ji
open PySem.PyData renaming depthAll->gM,eqv->iQ,canLayAll0->iW,eqvAll->jx,depth->lJ,int->lX,list->Ai
open PySem.SeqAt renaming EqAt->gD,shaped->mW
open PySem.SetTable renaming below->du,grown->rF
open PySem.Shared renaming heap->aaL
open PySem.Str renaming ofString->bA,ofString->EY
open PySem.StrLaws renaming found_one->ag8
open PySem.Txt renaming split->yW,join->aky
open PySem.Value renaming ref->dX,type->iM,bool->vZ,isStrOf->Ac,none->Ey,int->JR,isInt->aaK,str->ag7
open PySem.Value.type renaming inj->QK
open PySem.W renaming Frag->az,findIn->ik,emptyDict->jC,keepIn->lW,instObj->mL,fnOf->tO,plainGet->yZ,callWith_K->Ez,hasDictIn->Jf,nsIn->N8,isFn->Oa,methodCall_KW->Pq,lookIn->QM,codeIn->QQ,plainGet_of->SX,mg_of->UJ,plainOver->Wn,methodObj->Wo,takerIn->abv,makesIn->abw,length_le_weightAllW->abx,cellsFrom_some->aio
open PySem.W.Codec renaming encAll->xQ,denoteAll->Cw,app->J0,withinAll->abz
open PySem.W.WData renaming weightAll->Oq
open PyVbmiam renaming whole->jB,shape->lV,answers->yX,answers_asked->ain
open Sum renaming inr->bW,inl->qZ
open Sum.inr renaming inj->QL
open True renaming intro->N7
open Vbmiam renaming value->au,Books->aC,isNumeral->aN,isName->bj,step->bC,Move->bK,payload->bL,text->bT,State->cB,replay->cU,digit->dj,pairsOf->dq,Place->dw,User->dG,nats->dI,placeOf->dM,movesIn->dN,Kind->eU,KG->eY,command->fL,wordsOf->fX,ranged->gk,net->gC,isBytes->gK,fed->gW,userOf->ir,inside->iu,Record->jw,start->jz,guarded->jA,at_->jV,padded->jZ,METAL->j0,entered->kE,lower->lG,shareOf->lR,settled->lU,codes->mV,placeRow->pU,ok->qJ,kindNumber->qY,kindOf->uz,more->wj,sumOf->xK,has->yV,rising->Ab,less->Ah,moved->Dt,kinds->Du,written->Eu,weighed->Ew,splitBy->Ex,asOf->Je,headOf->JH,Done->aaJ,JOURNAL->ado,scaled->afv,Call->akx
open Vbmiam.Kind renaming pile->ZD
open VbmiamNeutral renaming step->jU,asked1->QJ
set_option linter.all false
set_option maxRecDepth 100000
set_option maxHeartbeats 4000000
noncomputable section
namespace L2
open PySem PySem.Spec PyProof.Rows
abbrev Key:=Sum Int Str
def K4:Key->Value->Bool
 |.inl k,v=>aaK k v
 |.inr x,v=>Ac x v
def atM(w:World):Key->Int
 |.inl k=>hashInt k
 |.inr x=>hashStr w x
theorem kZ:∀{k:Key} {v:Value},K4 k v=true->(∃i t,k=qZ i/\v=JR i t)\/(∃x t,k=bW x/\v=ag7 x t)
 |.inl i,v,h=>by
  obtain ⟨t,e⟩:=Value.isInt_shape (k:=i) (v:=v) h;exact .inl ⟨i,t,rfl,e⟩
 |.inr x,v,h=>by
  obtain ⟨t,e⟩:=Value.isStrOf_shape (x:=x) (v:=v) h;exact .inr ⟨x,t,rfl,e⟩
theorem ajp(i:Int)(t:Tok):K4 (.inl i) (.int i t)=true:=by simp [K4,aaK]
theorem ajo(x:Str)(t:Tok):K4 (.inr x) (.str x t)=true:=by simp [K4,Ac]
theorem apb(a b:Int):decide ((qZ a:Key)=qZ b)=(a==b):=by
 by_cases e:a=b
 ·subst e;simp
 ·have h:¬(qZ a:Key)=qZ b:=λq=>e (qZ.inj q);rw [decide_eq_false h];exact (beq_eq_false_iff_ne.mpr e).symm
theorem ao8(a b:Str):decide ((bW a:Key)=bW b)=decide (a=b):=by
 by_cases e:a=b
 ·subst e;simp
 ·have h:¬(bW a:Key)=bW b:=λq=>e (QL q);rw [decide_eq_false h,decide_eq_false e]
theorem apa(a:Int)(b:Str):decide ((qZ a:Key)=bW b)=false:=decide_eq_false (λq=>nomatch q)
theorem ao9(a:Str)(b:Int):decide ((bW a:Key)=qZ b)=false:=decide_eq_false (λq=>nomatch q)
noncomputable def fY (prog:Program) (w:World):PySem.KeyKind prog w Key where
 is:=K4
 hash:=atM w
 inj:=λv a b ha hb=>by
  rcases kZ ha with ⟨i,t,rfl,rfl⟩ | ⟨x,t,rfl,rfl⟩
  ·rcases kZ hb with ⟨j,u,rfl,e⟩ | ⟨y,u,rfl,e⟩
   ·injection e with e1 _;rw [e1]
   ·exact nomatch e
  ·rcases kZ hb with ⟨j,u,rfl,e⟩ | ⟨y,u,rfl,e⟩
   ·exact nomatch e
   ·injection e with e1 _;rw [e1]
 byValue:=λk v h=>by
  rcases kZ h with ⟨i,t,rfl,rfl⟩ | ⟨x,t,rfl,rfl⟩<;>rfl
 pyHash:=λhv h=>by
  rcases kZ hv with ⟨i,t,rfl,rfl⟩ | ⟨x,t,rfl,rfl⟩
  ·exact wpAny_pyHash_int h
  ·exact wpAny_pyHash_str h
 eqBool:=λhu hv h=>by
  rcases kZ hu with ⟨i,t,rfl,rfl⟩ | ⟨x,t,rfl,rfl⟩
  ·rcases kZ hv with ⟨j,u,rfl,rfl⟩ | ⟨y,u,rfl,rfl⟩
   ·rw [apb] at h;exact wpAny_eqBool_int h
   ·rw [apa] at h;exact gD.int_str i t y u _ _ _ _ h
  ·rcases kZ hv with ⟨j,u,rfl,rfl⟩ | ⟨y,u,rfl,rfl⟩
   ·rw [ao9] at h;exact gD.str_int x t j u _ _ _ _ h
   ·rw [ao8] at h;exact wpAny_eqBool_str h
 «strs»:=λk x t v h=>by
  rcases kZ h with ⟨i,u,rfl,e⟩ | ⟨y,u,rfl,e⟩
  ·exact nomatch e
  ·injection e with e1 _
   subst e1
   cases v<;>rfl
theorem aez(prog:Program)(w:World)(i:Int)(t:Tok):(fY prog w).is (.inl i) (.int i t)=true:=ajp i t
theorem aey(prog:Program)(w:World)(x:Str)(t:Tok):(fY prog w).is (.inr x) (.str x t)=true:=ajo x t
end L2
namespace L2
open PySem PySem.Spec PyProof.Rows
inductive V where
 |non | bl (b:Bool) | int (i:Int) | str (x:Str) | byt (b:Array UInt8) | flt (b:UInt64) | ref (a:Addr) | ty (n:String)
 deriving DecidableEq
def RelV:V->Value->Prop
 |.non,u=>u=Ey
 |.bl b,u=>u=vZ b
 |.int i,u=>∃t,u=JR i t
 |.str x,u=>∃t,u=ag7 x t
 |.byt b,u=>∃t,u=Value.bytes b t
 |.flt b,u=>∃t,u=Value.float b t
 |.ref a,u=>u=dX a
 |.ty n,u=>u=iM n
abbrev Vals:List V->List Value->Prop:=Paired RelV
theorem Vals.length{xs:List V}{us:List Value}(r:Vals xs us):xs.length=us.length:=jy r
theorem Vals.get:∀{xs:List V} {us:List Value} {i:Nat} {x:V},Vals xs us->xs[i]? =some x->∃u,us[i]? =some u/\RelV x u
 |_,_,_,_,.nil,e=>by simp at e
 |_,_,0,_,.cons r _,e=>by simp at e;subst e;exact ⟨_,rfl,r⟩
 |_,_,i+1,x,.cons _ t,e=>by
  obtain ⟨u,h1,h2⟩:=Vals.get (i:=i) (x:=x) t (by simpa using e);exact ⟨u,by simpa using h1,h2⟩
theorem Vals.append:∀{xs ys:List V} {us ws:List Value},Vals xs us->Vals ys ws->Vals (xs++ys) (us++ws)
 |_,_,_,_,.nil,s=>s
 |_,_,_,_,.cons r t,s=>.cons r (Vals.append t s)
theorem Vals.take:∀{xs:List V} {us:List Value} (n:Nat),Vals xs us->Vals (xs.take n) (us.take n)
 |_,_,0,_=>.nil
 |_,_,_+1,.nil=>.nil
 |_,_,n+1,.cons r t=>.cons r (Vals.take n t)
theorem Vals.drop:∀{xs:List V} {us:List Value} (n:Nat),Vals xs us->Vals (xs.drop n) (us.drop n)
 |_,_,0,r=>r
 |_,_,_+1,.nil=>.nil
 |_,_,n+1,.cons _ t=>Vals.drop n t
theorem Vals.none_of:∀{xs:List V} {us:List Value} {i:Nat},Vals xs us->xs[i]? =none->us[i]? =none:=λ{xs us i} r e=>by
 have h1:=r.length;have h2:xs.length<=i:=afn.mp e;exact afn.mpr (by omega)
def Mh:Option V->Option Value->Prop
 |some v,some u=>RelV v u
 |none,none=>True
 |_,_=>False
def KV{κ:Type}:List (κ×V)->List (κ×Value)->Prop:=Paired λ(p:κ×V) (q:κ×Value)=>p.1=q.1/\RelV p.2 q.2
noncomputable def kV:Key->V
 |.inl i=>.int i
 |.inr x=>.str x
inductive HO where
 |lst (xs:List V)
 |tup (xs:List V)
 |dK (kvs:List (Key×V)) | dT (kvs:List (List Key×V))
 |set (S:Int->Bool) (n:Nat)
 |ins (C dx:Addr) (fs:List (Str×V))
 |own (x:Addr)
 |xd (fs:List (Str×V))
 |met (f x:Addr)
 |rng (lo hi:Int)
 |xZ (o:Obj) (u:HO)
 |tbl (ps:Array Value)
 |ext (φ:Heap->Prop)
abbrev Hp:=Addr->Option HO
noncomputable def upd (H:Hp) (a:Addr) (o:HO):Hp:=λb=>if b=a then some o else H b
theorem aD{H:Hp}{a:Addr}{o:HO}:upd H a o a=some o:=by unfold upd;rw [if_pos rfl]
theorem aF{H:Hp}{a b:Addr}{o:HO}(h:b≠a):upd H a o b=H b:=by unfold upd;rw [if_neg h]
theorem ahr{H:Hp}{a:Addr}{o u:HO}:upd (upd H a o) a u=upd H a u:=by
 funext b;unfold upd;split<;>rfl
theorem dC{H:Hp}{a b:Addr}{o u:HO}(h:H a=some o)(h':H b=some u)(d:o≠u):a≠b:=by
 intro e;subst e;rw [h] at h';exact d (aB h')
theorem fK{H:Hp}{a b:Addr}{o:HO}(h:H a=some o)(h':H b=none):a≠b:=by
 intro e;subst e;rw [h] at h';cases h'
section
variable (P:Program) (w:World)
def lE(H:Hp)(h:Heap)(a:Addr):HO->Prop
 |.lst xs=>xs.length<=sizeLine/\∃(its:List Value) (n:Nat),Vals xs its/\h.get? a=some {cls:=.type "list",data:=.seq its.toArray n}
 |.tup xs=>xs.length<=sizeLine/\∃its:List Value,Vals xs its/\IsTup h a its.toArray
 |.dK kvs=>kvs.length<=sizeLine/\(a==sysModules)=false/\∃vs,KV kvs vs/\h.DictOf (fY P w) a vs
 |.dT kvs=>kvs.length<=sizeLine/\(a==sysModules)=false/\∃xs:List (List Key×Addr×Value),
   Paired (λ(p:List Key×V) (q:List Key×Addr×Value)=>p.1=q.1/\H q.2.1=some (.tup (p.1.map kV))/\RelV p.2 q.2.2) kvs xs/\
   ∃o es ep,h.get? a=some o/\o.ExactDict/\o.data= .dict es ep/\es.toList=xs.map (entryOfKey (tupleKind (fY P w)))/\(xs.map (·.1)).Nodup
 |.set S n=>h.SetOf (intKind P w) a S n
 |.ins C dx fs=>H dx=some (.own a)/\fs.length<=1000/\dx≠a/\h.get? a=some (mL C dx)/\
   ∃mA,h.Ns1 dx mA/\(∀f,Mh (fs.lookup f) (mA f))/\Wm mA (fs.map (·.1))
 |.own _=>∃o,h.get? a=some o
 |.xd fs=>∃mA,h.Ns1 a mA/\∀f,Mh (fs.lookup f) (mA f)
 |.rng lo hi=>∃t u v,h.get? a=some {cls:=.type "range",data:=.fields #[.int lo t,.int hi u,.int 1 v]}
 |.xZ o u=>h.get? a=some o/\lE H h a u
 |.tbl ps=>h.get? a=some {cls:=.none,data:=.fields ps}
 |.met f x=>h.get? a=some (Wo (.ref f) (.ref x))
 |.ext φ=>φ h/\(∃o,h.get? a=some o)/\∀h1 h2:Heap,φ h1->(∀o,h1.get? a=some o->h2.get? a=some o)->φ h2
def JQ(H:Hp)(h:Heap):Prop:=∀a o,H a=some o->lE P w H h a o
end
section
variable {P:Program} {w:World} {H H':Hp} {h h':Heap} {a:Addr} {o:HO}
theorem lE.lt(x:lE P w H h a o):a<h.objs.size:=by
 cases o with
 |lst xs=>obtain ⟨_,_,_,_,e⟩:=x;exact aZ e
 |tup xs=>obtain ⟨_,_,_,p⟩:=x;exact p.lt
 |dK kvs=>obtain ⟨_,_,_,_,o,_,_,e,_⟩:=x;exact aZ e
 |dT kvs=>obtain ⟨_,_,_,_,o,_,_,e,_⟩:=x;exact aZ e
 |set S n=>obtain ⟨o,_,_,_,e,_⟩:=x;exact aZ e
 |ins C dx fs=>obtain ⟨_,_,_,e,_⟩:=x;exact aZ e
 |own y=>obtain ⟨_,e⟩:=x;exact aZ e
 |xd fs=>obtain ⟨_,⟨_,_,_,e,_⟩,_⟩:=x;exact aZ e
 |rng lo hi=>obtain ⟨_,_,_,e⟩:=x;exact aZ e
 |xZ ob u=>obtain ⟨e,_⟩:=x;exact aZ e
 |tbl ps=>exact aZ (show h.get? a=some _ from x)
 |met f y=>exact aZ (show h.get? a=some _ from x)
 |ext φ=>obtain ⟨_,⟨_,e⟩,_⟩:=x;exact aZ e
theorem Paired.anj{α β:Type}{F G:α->β->Prop}:∀{l₁:List α} {l₂:List β},Paired F l₁ l₂->(∀a b,F a b->G a b)->Paired G l₁ l₂
 |_,_,.nil,_=>.nil
 |_,_,.cons r t,f=>.cons (f _ _ r) (Paired.anj t f)
theorem Paired.imp'{α β:Type}{F G:α->β->Prop}(f:∀a b,F a b->G a b){l₁:List α}{l₂:List β}(r:Paired F l₁ l₂):Paired G l₁ l₂:=Paired.anj r f
theorem lE.stay(x:lE P w H h a o)(k:∀b u,(b=a\/H b=some (.own a))->h.get? b=some u->h'.get? b=some u)(ho:∀b,H b=some (.own a)->H' b=some (.own a))(ht:∀b xs,H b=some (.tup xs)->H' b=some (.tup xs)):lE P w H' h' a o:=(by apply aj:aa (by
 induction o with
 |lst xs=>obtain ⟨z,its,n,r,e⟩:=x;exact ⟨z,its,n,r,k _ _ (.inl rfl) e⟩
 |tup xs=>obtain ⟨z,its,r,ob,e,c⟩:=x;exact ⟨z,its,r,ob,k _ _ (.inl rfl) e,c⟩
 |dK kvs=>obtain ⟨z,y,vs,r,ob,es,ep,e,c⟩:=x;exact ⟨z,y,vs,r,ob,es,ep,k _ _ (.inl rfl) e,c⟩
 |dT kvs=>
  obtain ⟨z,y,xs,r,ob,es,ep,e,c⟩:=x;exact ⟨z,y,xs,Paired.anj r λp q z=>⟨z.1,ht _ _ z.2.1,z.2.2⟩,ob,es,ep,k _ _ (.inl rfl) e,c⟩
 |set S n=>obtain ⟨ob,es,ep,t,e,c⟩:=x;exact ⟨ob,es,ep,t,k _ _ (.inl rfl) e,c⟩
 |ins C dx fs=>
  obtain ⟨d,z,ne,e,mA,⟨od,es,ep,e2,c⟩,r⟩:=x;exact ⟨ho _ d,z,ne,k _ _ (.inl rfl) e,mA,⟨od,es,ep,k _ _ (.inr d) e2,c⟩,r⟩
 |own y=>obtain ⟨ob,e⟩:=x;exact ⟨ob,k _ _ (.inl rfl) e⟩
 |xd fs=>obtain ⟨mA,⟨od,es,ep,e,c⟩,r⟩:=x;exact ⟨mA,⟨od,es,ep,k _ _ (.inl rfl) e,c⟩,r⟩
 |rng lo hi=>obtain ⟨t,u,v,e⟩:=x;exact ⟨t,u,v,k _ _ (.inl rfl) e⟩
 |xZ ob u ih=>obtain ⟨e,q⟩:=x;exact ⟨k _ _ (.inl rfl) e,ih q⟩
 |tbl ps=>
  have e:h.get? a=some {cls:=.none,data:=.fields ps}:=x;show h'.get? a=some {cls:=.none,data:=.fields ps};exact k a _ (.inl rfl) e
 |met f y=>
  have e:h.get? a=some (Wo (.ref f) (.ref y)):=x;show h'.get? a=some (Wo (.ref f) (.ref y));exact k a _ (.inl rfl) e
 |ext φ=>obtain ⟨p,⟨o,e⟩,st⟩:=x;exact ⟨st _ _ p λo q=>k _ _ (.inl rfl) q,⟨o,k _ _ (.inl rfl) e⟩,st⟩))
theorem JQ.lt(x:JQ P w H h)(e:H a=some o):a<h.objs.size:=(x a o e).lt
theorem JQ.fresh(x:JQ P w H h)(e:h.objs.size<=a):H a=none:=by
 cases q:H a with
 |none=>rfl
 |some u=>exact absurd (cM (x.lt q) e) (je _)
theorem JQ.kept(x:JQ P w H h)(k:∀b u,h.get? b=some u->h'.get? b=some u):JQ P w H h':=λa o e=>
 (x a o e).stay (λb u _ q=>k b u q) (λ_ q=>q) λ_ _ q=>q
theorem JQ.laid(x:JQ P w H h)(k:∀b u,h.get? b=some u->h'.get? b=some u)(hp:h.objs.size<=a)(new:lE P w (upd H a o) h' a o):JQ P w (upd H a o) h':=λb u e=>by
 have hn:=x.fresh hp;by_cases hb:b=a
 ·subst hb;rw [aD] at e;cases e;exact new
 ·rw [aF hb] at e;exact (x b u e).stay (λc v _ q=>k c v q) (λc q=>by rw [aF (fK q hn)];exact q) λc xs q=>by rw [aF (fK q hn)];exact q
end
def Rd(H:Hp)(a:Addr)(u:HO):Prop:=H a=some u\/∃o,H a=some (.xZ o u)
theorem Rd.ok{P:Program}{w:World}{H:Hp}{h:Heap}{a:Addr}{u:HO}(r:Rd H a u)(x:JQ P w H h):lE P w H h a u:=by
 rcases r with r | ⟨o,r⟩
 ·exact x a u r
 ·obtain ⟨_,q⟩:=x a _ r;exact q
def Mut:Option HO->Prop
 |some (.lst _)=>True
 |some (.dK _)=>True
 |some (.dT _)=>True
 |some (.set _ _)=>True
 |some (.ins _ _ _)=>True
 |some (.ext _)=>True
 |_=>False
section
variable {P:Program} {w:World} {H:Hp} {h h':Heap} {x e:Addr} {o':HO}
theorem JQ.write(ok:JQ P w H h)(mu:Mut (H x))(he:e=x\/H e=some (.own x))(k:∀b u,b≠e->h.get? b=some u->h'.get? b=some u)(heo:∃u,h'.get? e=some u)(new:lE P w (upd H x o') h' x o'):JQ P w (upd H x o') h':=λb u q=>by
 have aqU:∀c y,H c=some (.own y)->c≠x:=λc y r z=>by subst z;rw [r] at mu;exact mu
 have atu:∀c xs,H c=some (.tup xs)->c≠x:=λc xs r z=>by subst z;rw [r] at mu;exact mu
 by_cases hb:b=x
 ·subst hb;rw [aD] at q;cases q;exact new
 ·rw [aF hb] at q;by_cases hbe:b=e
  ·have q':H b=some (.own x):=by
    rcases he with z | z
    ·exact absurd (hbe.trans z) hb
    ·rw [hbe];exact z
   rw [q] at q';cases q';obtain ⟨v,hv⟩:=heo;exact ⟨v,by rw [hbe];exact hv⟩
  ·refine (ok b u q).stay (λc v hc r=>k c v ?_ r) (λc r=>by rw [aF (aqU c b r)];exact r) λc xs r=>by rw [aF (atu c xs r)];exact r
   rcases hc with rfl | hc
   ·exact hbe
   ·rintro rfl;rcases he with z | z
    ·exact aqU c b hc z
    ·rw [hc] at z;cases z;exact hb rfl
end
structure Un(fs ex:List Addr)(H H':Hp)(h h':Heap):Prop where
 keep:∀b o,h.get? b=some o->H b=none->b∉fs->b∉ex->h'.get? b=some o
 slot:∀b o,h.get? b=some o->H b=none->b∈fs->b∉ex->∃sl,h'.get? b=some {o with slots:=sl}
 free:∀b o,h.get? b=some o->H b=none->b∉ex->H' b=none
 there:∀b o,h.get? b=some o->b∉ex->∃o',h'.get? b=some o'
 tups:∀b xs,H b=some (.tup xs)->H' b=some (.tup xs)
 V0:∀b o u,H b=some (.xZ o u)->H' b=some (.xZ o u)
 abD:∀b ps,H b=some (.tbl ps)->∃more,H' b=some (.tbl (ps++more))
section
variable {fs fs' ex ex':List Addr} {H H1 H2:Hp} {h h1 h2 h':Heap} {a x e:Addr} {o:HO}
theorem Un.any(u:Un fs ex H H1 h h1){b:Addr}{ob:Obj}(q:h.get? b=some ob)(n:H b=none)(hx:b∉ex):∃sl,h1.get? b=some {ob with slots:=sl}:=by
 by_cases hb:b∈fs
 ·exact u.slot b ob q n hb hx
 ·exact ⟨ob.slots,u.keep b ob q n hb hx⟩
theorem Un.kept(k:∀b u,h.get? b=some u->h'.get? b=some u):Un fs ex H H h h':=
 ⟨λb ob q _ _ _=>k b ob q,λb ob q _ _ _=>⟨ob.slots,k b ob q⟩,λ_ _ _ n _=>n,λb ob q _=>⟨ob,k b ob q⟩,λ_ _ q=>q,λ_ _ _ q=>q,λ_ ps q=>⟨#[],by rw [q];simp⟩⟩
theorem Un.refl:Un fs ex H H h h:=Un.kept λ_ _ q=>q
theorem Un.laid(k:∀b u,h.get? b=some u->h'.get? b=some u)(hp:h.objs.size<=a)(hn:H a=none):Un fs ex H (upd H a o) h h' where
 keep:=λb u q _ _ _=>k b u q
 slot:=λb u q _ _ _=>⟨u.slots,k b u q⟩
 free:=λb u q n _=>by rw [aF (b8 (cM (aZ q) hp))];exact n
 there:=λb u q _=>⟨u,k b u q⟩
 tups:=λb xs q=>by rw [aF (fK q hn)];exact q
 V0:=λb u xs q=>by rw [aF (fK q hn)];exact q
 abD:=λb ps q=>⟨#[],by rw [aF (fK q hn),q];simp⟩
theorem Un.write(mu:Mut (H x))(he:e=x\/H e=some (.own x))(k:∀b u,b≠e->h.get? b=some u->h'.get? b=some u)(heo:∃u,h'.get? e=some u):Un fs ex H (upd H x o) h h':=(by apply aj:aa (by
 have hx:∀b,H b=none->b≠x:=λb n z=>by subst z;rw [n] at mu;exact mu
 have hb:∀b,H b=none->b≠e:=λb n z=>by
  subst z;rcases he with r | r
  ·exact hx b n r
  ·rw [n] at r;cases r
 have hm:∀b u,H b=some u->¬Mut (some u)->b≠x:=λb u q nm z=>by subst z;rw [q] at mu;exact nm mu
 refine ⟨λb u q n _ _=>k b u (hb b n) q,λb u q n _ _=>⟨u.slots,k b u (hb b n) q⟩,λb u q n _=>by rw [aF (hx b n)];exact n,λb u q _=>?_,
  λb xs q=>by rw [aF (hm b _ q λz=>z)];exact q,λb u xs q=>by rw [aF (hm b _ q λz=>z)];exact q,λb ps q=>⟨#[],by rw [aF (hm b _ q λz=>z),q];simp⟩⟩
 by_cases hbe:b=e
 ·subst hbe;exact heo
 ·exact ⟨u,k b u hbe q⟩))
end
noncomputable def trk (h:Heap) (H:Hp):List Addr:=(iR h.objs.size).filter λa=>(H a).isSome
def RL(h:Heap)(H:Hp):Heap:=PySem.W.hideAll h (trk h H)
theorem aa9(h:Heap)(H:Hp):(RL h H).objs.size=h.objs.size:=PySem.W.hideAll_size _ _
theorem aeP{h:Heap}{H:Hp}{b:Addr}{o:Obj}(e:h.get? b=some o)(n:H b=none):(RL h H).get? b=some o:=
 PySem.W.hideAll_get _ e λhm=>by
  have q:(H b).isSome=true:=(vY.mp hm).2;rw [n] at q;simp at q
theorem ahP{h:Heap}{H:Hp}{b:Addr}{o:Obj}(e:(RL h H).get? b=some o):h.get? b=some o/\H b=none:=by
 have e':h.get? b=some o:=PySem.W.of_hideAll (trk h H) e;refine ⟨e',?_⟩;cases q:H b with
 |none=>rfl
 |some x=>
  have hm:b∈trk h H:=vY.mpr ⟨adq.mpr (aZ e'),by simp [q]⟩;have z:(RL h H).get? b=none:=PySem.W.hideAll_none (trk h H) hm;rw [z] at e;cases e
noncomputable def anS (g h:Heap) (L:Addr):List (Addr×Obj):=(iR h.objs.size).filterMap λa=>if a=L\/(g.get? a).isSome=true then none else (h.get? a).map λo=>(a,o)
noncomputable def rest (g h:Heap) (L d:Addr):List (Addr×Obj):=(anS g h L).filter λp=>decide (p.1≠d)
end L2
namespace L2
open PySem PySem.Spec PyProof.Rows
structure Mod(K:az)(mg:Str->Option Value)(base:Heap):Prop where
 kin:K.In base
 glob:base.Ns mainGlobals mg
 blt:∃mb,base.Ns builtinsNs mb/\∀x:Str,x≠"__name__"->mb x=bootBuiltins x
 nolimit:base.NoLimit
structure Cx where
 prog:Program
 w:World
 K:az
 mg:Str->Option Value
 base:Heap
 A:Around
 N:List Str
 s_0:Shared
 H_0:Hp
 env:Env
 outer:List Env
 stack:List Env
 ex:List Addr
 fn:Str->Bool
 calm:Bool
 pn:List (Addr×Obj)
 xe:Value->Shared->Prop
noncomputable def frs (l:List Env):List Addr:=l.filterMap (·.frame)
abbrev Cx.fs(X:Cx):List Addr:=frs X.outer
def Vis(sc:Scope)(x:Str):Prop:=sc.names.lookup x=some .local\/sc.names.lookup x=some .cell\/sc.names.lookup x=some .free
def Loc(sc:Scope)(x:Str):Prop:=sc.names.lookup x=some .local\/sc.names.lookup x=some .cell
def Look(env:Env)(h:Heap)(m:Str->Option Value)(x:Str)(u:Value):Prop:=
 (env.kindOf x=some .local/\m x=some u)\/((env.kindOf x=some .cell\/env.kindOf x=some .free)/\∃c,env.cells.lookup x=some c/\h.IsCell c (some u))
structure Cx.Ok(X:Cx):Prop where
 mod:Mod X.K X.mg X.base
 kind:X.env.scope.kind= .function
 glob:X.env.globals=mainGlobals
 blt:X.env.builtins=builtinsNs
 above:X.s_0.heap.objs.size<=X.env.locals
 inj:∀x y c,X.env.cells.lookup x=some c->X.env.cells.lookup y=some c->x=y
 has:∀x,(X.env.kindOf x=some .cell\/X.env.kindOf x=some .free)->∃c,X.env.cells.lookup x=some c
 cab:∀x c,X.fn x=true->X.env.cells.lookup x=some c->X.s_0.heap.objs.size<=c
 hd:X.calm=true->X.A.handled=none
 frames:X.A.frames=some X.stack
 stk:X.stack=X.outer\/(X.stack=X.env::X.outer/\X.env.frame=some X.env.locals)
 exf:∀b∈X.ex,b≠X.env.locals/\∀x c,X.env.cells.lookup x=some c->c≠b
 bs:∀b o,X.base.get? b=some o->X.s_0.heap.get? b=some o/\X.H_0 b=none
 bsz:X.base.objs.size<=X.s_0.heap.objs.size
 alj:∀b o,X.base.get? b=some o->b∉X.ex
 ame:∀b∈X.ex,b∉X.fs
 VV:X.s_0.heap.FunFrames X.base X.outer
 frf:∀b∈X.fs,X.H_0 b=none
structure Inv(X:Cx)(pins:List (Addr×Obj))(σ:List (Option V))(H:Hp)(s:Shared):Prop where
 ok:X.Ok
 os:s.os=X.s_0.os
 bare:AllBare s.gens
 base:Un X.fs X.ex X.H_0 H X.s_0.heap s.heap
 loc:∃m,s.heap.Ns X.env.locals m/\∀(i:Nat) (x:Str) (v:V),X.N[i]? =some x->σ[i]? =some (some v)->Vis X.env.scope x->∃u,RelV v u/\Look X.env s.heap m x u
 cell:∀x c,X.env.cells.lookup x=some c->∃v,s.heap.IsCell c v
 free:H X.env.locals=none
 Dh:∀x c,X.env.cells.lookup x=some c->H c=none
 pin:∀p∈X.pn++pins,s.heap.get? p.1=some p.2/\H p.1=none/\p.1≠X.env.locals/\p.1∉X.fs/\∀v,p.2.data≠ .cell v
 hok:JQ X.prog X.w H s.heap
 len:σ.length=X.N.length
section
variable {X:Cx} {pins:List (Addr×Obj)} {σ:List (Option V)} {H H':Hp} {s:Shared} {h':Heap}
theorem Cx.Ok.aty(ok:X.Ok){b:Addr}{o:Obj}(e:X.base.get? b=some o):b∉X.fs:=λhb=>by
 have:=(ok.VV.mem hb).1;rw [e] at this;cases this
theorem Inv.bs(I:Inv X pins σ H s):∀b o,X.base.get? b=some o->s.heap.get? b=some o/\H b=none:=λb o e=>
 ⟨I.base.keep b o (I.ok.bs b o e).1 (I.ok.bs b o e).2 (I.ok.aty e) (I.ok.alj b o e),I.base.free b o (I.ok.bs b o e).1 (I.ok.bs b o e).2 (I.ok.alj b o e)⟩
theorem Inv.bk(I:Inv X pins σ H s):∀b o,X.base.get? b=some o->s.heap.get? b=some o:=λb o e=>(I.bs b o e).1
theorem Inv.mod(I:Inv X pins σ H s):Mod X.K X.mg X.base:=I.ok.mod
theorem Inv.kIn(I:Inv X pins σ H s):X.K.In s.heap:=I.ok.mod.kin.keeps I.bk
theorem Inv.fr(I:Inv X pins σ H s):∃m,Fr X.base X.env.locals s.heap m:=
 let ⟨m,hn,_⟩:=I.loc
 ⟨m,hn,I.bk,aY I.ok.bsz I.ok.above⟩
theorem Inv.lt(I:Inv X pins σ H s):X.env.locals<s.heap.objs.size:=let ⟨_,hn,_⟩:=I.loc;hn.lt
theorem Inv.sz(I:Inv X pins σ H s):X.s_0.heap.objs.size<=s.heap.objs.size:=aY I.ok.above (Dv I.lt)
theorem Inv.atx(I:Inv X pins σ H s){a:Addr}(h:s.heap.objs.size<=a):a∉X.fs:=λhb=>by
 obtain ⟨_,o,ho,_⟩:=I.ok.VV.mem hb;exact absurd (cM (aZ ho) (aY I.sz h)) (je _)
theorem Inv.cne(I:Inv X pins σ H s):∀x c,X.env.cells.lookup x=some c->c≠X.env.locals:=λx c e z=>by
 obtain ⟨v,o,ho,hd⟩:=I.cell x c e;obtain ⟨m,⟨o',es,ep,ho',hd',_⟩,_⟩:=I.loc;rw [z,ho'] at ho;cases ho;rw [hd'] at hd;cases hd
theorem Inv.VV(I:Inv X pins σ H s):s.heap.FunFrames X.base X.outer:=by
 have all:∀(l:List Env),(∀b∈frs l,b∈X.fs)->X.s_0.heap.FunFrames X.base l->s.heap.FunFrames X.base l:=by
  intro l
  induction l with
  |nil=>intro _ _;trivial
  |cons env r ih=>
   intro hs hl;obtain ⟨hk,⟨L,o,hf,hn,ho,hd⟩,hr⟩:=hl;have hL:L∈X.fs:=hs L (by unfold frs;rw [fZ,hf];exact bz);obtain ⟨sl,e⟩:=I.base.slot L o ho (I.ok.frf L hL) hL λz=>I.ok.ame L z hL;exact ⟨hk,⟨L,_,hf,hn,e,hd⟩,ih (λb hb=>hs b (by unfold frs;rw [fZ,hf];exact aV _ hb)) hr⟩
 exact all X.outer (λ_ hb=>hb) I.ok.VV
theorem Inv.stack(I:Inv X pins σ H s):s.heap.FunFrames X.base X.stack:=by
 rcases I.ok.stk with e | ⟨e,hf⟩
 ·rw [e];exact I.VV
 ·rw [e];obtain ⟨m,hn,_⟩:=I.loc;refine .cons (by rw [I.ok.kind];decide) hf hn ?_ I.VV;exact Heap.get?_none_of_le (aY I.ok.bsz I.ok.above)
theorem Inv.afO(I:Inv X pins σ H s):∀b∈frs X.stack,b∈X.env.locals::X.fs:=λb hb=>by
 rcases I.ok.stk with e | ⟨e,hf⟩
 ·rw [e] at hb;exact aV _ hb
 ·rw [e] at hb;unfold frs at hb;rw [fZ,hf] at hb;exact hb
theorem Inv.ahy(I:Inv X pins σ H s):∀b∈frs X.stack,H b=none:=λb hb=>by
 rcases bc.mp (I.afO b hb) with e | hb
 ·rw [e];exact I.free
 ·obtain ⟨_,o,ho,_⟩:=I.ok.VV.mem hb;exact I.base.free b o ho (I.ok.frf b hb) λz=>I.ok.ame b z hb
theorem Inv.step{g':Array GenState}{t':Nat}{d':Drawn}{ch:List Addr}(I:Inv X pins σ H s)(hch:∀b∈ch,(b∈X.ex\/X.s_0.heap.objs.size<=b)/\b≠X.env.locals/\(∀x c,X.env.cells.lookup x=some c->c≠b)/\∀p∈X.pn++pins,p.1≠b)(keep:∀b o,b≠X.env.locals->b∉X.fs->b∉ch->s.heap.get? b=some o->H b=none->h'.get? b=some o)(slot:∀b o,b≠X.env.locals->b∈X.fs->b∉ch->s.heap.get? b=some o->H b=none->∃sl,h'.get? b=some {o with slots:=sl})(free:∀b o,b∉ch->s.heap.get? b=some o->H b=none->H' b=none)(there:∀b o,b∉ch->s.heap.get? b=some o->∃o',h'.get? b=some o')(tups:∀b xs,H b=some (.tup xs)->H' b=some (.tup xs))(V0:∀b o u,H b=some (.xZ o u)->H' b=some (.xZ o u))(abD:∀b ps,H b=some (.tbl ps)->∃more,H' b=some (.tbl (ps++more)))(ns:∀m,s.heap.Ns X.env.locals m->h'.Ns X.env.locals m)(hok:JQ X.prog X.w H' h')(hg:AllBare g'):
  Inv X pins σ H' {s with heap:=h',gens:=g',drawn:=d',toks:=t'}:=(by apply aj:aa (by
 have neL:∀b o,X.s_0.heap.get? b=some o->b≠X.env.locals:=λb o e=>b8 (cM (aZ e) I.ok.above);have neC:∀b o,X.s_0.heap.get? b=some o->b∉X.ex->b∉ch:=λb o e hx hb=>by
  rcases (hch b hb).1 with z | z
  ·exact hx z
  ·exact absurd (cM (aZ e) z) (je _)
 have cellK:∀x c,X.env.cells.lookup x=some c->∀v,s.heap.IsCell c v->h'.IsCell c v:=λx c e v ⟨o,ho,hd⟩=>by
  have nch:c∉ch:=λz=>(hch c z).2.2.1 x c e rfl;by_cases hc:c∈X.fs
  ·obtain ⟨sl,q⟩:=slot c o (I.cne x c e) hc nch ho (I.Dh x c e);exact ⟨_,q,hd⟩
  ·exact ⟨o,keep c o (I.cne x c e) hc nch ho (I.Dh x c e),hd⟩
 refine ⟨I.ok,I.os,hg,⟨λb o e n hb hx=>?_,λb o e n hb hx=>?_,λb o e n hx=>?_,λb o e hx=>?_,λb xs e=>tups b xs (I.base.tups b xs e),λb o xs e=>V0 b o xs (I.base.V0 b o xs e),λb ps e=>?_⟩,?_,λx c e=>?_,?_,λx c e=>?_,λp hp=>?_,hok,I.len⟩
 ·exact keep b o (neL b o e) hb (neC b o e hx) (I.base.keep b o e n hb hx) (I.base.free b o e n hx)
 ·obtain ⟨sl,e1⟩:=I.base.slot b o e n hb hx;obtain ⟨sl',e2⟩:=slot b _ (neL b o e) hb (neC b o e hx) e1 (I.base.free b o e n hx);exact ⟨sl',e2⟩
 ·obtain ⟨o',e1⟩:=I.base.there b o e hx;exact free b o' (neC b o e hx) e1 (I.base.free b o e n hx)
 ·obtain ⟨o',e1⟩:=I.base.there b o e hx;exact there b o' (neC b o e hx) e1
 ·obtain ⟨m1,e1⟩:=I.base.abD b ps e;obtain ⟨m2,e2⟩:=abD b _ e1;exact ⟨m1++m2,by rw [e2,Array.append_assoc]⟩
 ·obtain ⟨m,hn,hl⟩:=I.loc;refine ⟨m,ns m hn,λi x v e1 e2 e3=>?_⟩;obtain ⟨u,r,l⟩:=hl i x v e1 e2 e3;refine ⟨u,r,?_⟩;rcases l with l | ⟨k,c,e,z⟩
  ·exact .inl l
  ·exact .inr ⟨k,c,e,cellK x c e _ z⟩
 ·obtain ⟨v,z⟩:=I.cell x c e;exact ⟨v,cellK x c e v z⟩
 ·obtain ⟨m,⟨o,_,_,ho,_⟩,_⟩:=I.loc;exact free _ o (λz=>(hch _ z).2.1 rfl) ho I.free
 ·obtain ⟨v,o,ho,hd⟩:=I.cell x c e;exact free c o (λz=>(hch c z).2.2.1 x c e rfl) ho (I.Dh x c e)
 ·obtain ⟨e,n,ne,nf,d⟩:=I.pin p hp;have nch:p.1∉ch:=λz=>(hch p.1 z).2.2.2 p hp rfl;exact ⟨keep p.1 p.2 ne nf nch e n,free p.1 p.2 nch e n,ne,nf,d⟩))
theorem Inv.un{t':Nat}(I:Inv X pins σ H s)(u:Un X.fs [] H H' s.heap h')(hok:JQ X.prog X.w H' h'):Inv X pins σ H' {s with heap:=h',toks:=t'}:=(by apply aj:aa (by
 obtain ⟨m,⟨o,es,ep,ho,r⟩,_⟩:=id I.loc;obtain ⟨sl,hL⟩:=u.any ho I.free (by simp);exact I.step (g':=s.gens) (d':=s.drawn) (ch:=[]) (λ_ z=>nomatch z) (λb o _ hb _ e n=>u.keep b o e n hb (by simp)) (λb o _ hb _ e n=>u.slot b o e n hb (by simp)) (λb o _ e n=>u.free b o e n (by simp)) (λb o _ e=>u.there b o e (by simp)) u.tups u.V0 u.abD (λm' hm=>by
  obtain ⟨o',es',ep',ho',r'⟩:=hm;rw [ho] at ho';cases ho';exact ⟨_,es',ep',hL,r'⟩) hok I.bare))
theorem Inv.call{g':Array GenState}{t':Nat}{d':Drawn}{ch:List Addr}(I:Inv X pins σ H s)(u:Un (frs X.stack) ch H H' s.heap h')(hok:JQ X.prog X.w H' h')(hg:AllBare g')(hch:∀b∈ch,(b∈X.ex\/X.s_0.heap.objs.size<=b)/\b≠X.env.locals/\(∀x c,X.env.cells.lookup x=some c->c≠b)/\∀p∈X.pn++pins,p.1≠b):
  Inv X pins σ H' {s with heap:=h',gens:=g',drawn:=d',toks:=t'}:=(by apply aj:aa (by
 obtain ⟨m,⟨o,es,ep,ho,r⟩,_⟩:=id I.loc;obtain ⟨sl,hL⟩:=u.any ho I.free λz=>(hch _ z).2.1 rfl;exact I.step (ch:=ch) hch (λb o hL hb hc e n=>u.keep b o e n (λz=>(bc.mp (I.afO b z)).elim hL hb) hc) (λb o _ _ hc e n=>u.any e n hc) (λb o hc e n=>u.free b o e n hc) (λb o hc e=>u.there b o e hc) u.tups u.V0 u.abD (λm' hm=>by
  obtain ⟨o',es',ep',ho',r'⟩:=hm;rw [ho] at ho';cases ho';exact ⟨_,es',ep',hL,r'⟩) hok hg))
theorem Inv.turned{t':Nat}{it:Addr}(I:Inv X pins σ H s)(k:∀b o,b≠it->s.heap.get? b=some o->h'.get? b=some o)(hn:H it=none)(hL:it≠X.env.locals)(h1:it∈X.ex\/X.s_0.heap.objs.size<=it)(h2:∀x c,X.env.cells.lookup x=some c->c≠it)(h3:∀p∈X.pn++pins,p.1≠it):Inv X pins σ H {s with heap:=h',toks:=t'}:=(by apply aj:aa (by
 have nit:∀b u,H b=some u->b≠it:=λb u e z=>by rw [z,hn] at e;cases e
 refine I.step (g':=s.gens) (d':=s.drawn) (ch:=[it]) (λb hb=>?_) (λb o _ _ hc e _=>k b o (λz=>hc (by simp [z])) e) (λb o _ _ hc e _=>⟨o.slots,k b o (λz=>hc (by simp [z])) e⟩) (λ_ _ _ _ n=>n)
  (λb o hc e=>⟨o,k b o (λz=>hc (by simp [z])) e⟩) (λ_ _ e=>e) (λ_ _ _ e=>e) (λb ps e=>⟨#[],by rw [e];simp⟩) (λm hm=>?_) (λb u e=>?_) I.bare
 ·have e:b=it:=by simpa using hb
  subst e;exact ⟨h1,hL,h2,h3⟩
 ·obtain ⟨o,es,ep,ho,r⟩:=hm;exact ⟨o,es,ep,k _ o (cO hL) ho,r⟩
 ·refine (I.hok b u e).stay (λc v hc q=>k c v ?_ q) (λ_ q=>q) λ_ _ q=>q;rcases hc with z | z
  ·rw [z];exact nit b u e
  ·exact nit c _ z))
theorem Inv.tok(I:Inv X pins σ H s)(t:Nat):Inv X pins σ H {s with toks:=t}:=I.un (h':=s.heap) (t':=t) Un.refl I.hok
theorem Inv.kept{t':Nat}(I:Inv X pins σ H s)(k:∀b u,s.heap.get? b=some u->h'.get? b=some u):Inv X pins σ H {s with heap:=h',toks:=t'}:=I.un (Un.kept k) (I.hok.kept k)
theorem Inv.laid{a:Addr}{o:HO}{t':Nat}(I:Inv X pins σ H s)(k:∀b u,s.heap.get? b=some u->h'.get? b=some u)(hp:s.heap.objs.size<=a)(new:lE X.prog X.w (upd H a o) h' a o):
  Inv X pins σ (upd H a o) {s with heap:=h',toks:=t'}:=I.un (Un.laid k hp (I.hok.fresh hp)) (I.hok.laid k hp new)
theorem Inv.write{x e:Addr}{o:HO}{t':Nat}(I:Inv X pins σ H s)(mu:Mut (H x))(he:e=x\/H e=some (.own x))(k:∀b u,b≠e->s.heap.get? b=some u->h'.get? b=some u)(heo:∃u,h'.get? e=some u)(new:lE X.prog X.w (upd H x o) h' x o):Inv X pins σ (upd H x o) {s with heap:=h',toks:=t'}:=I.un (Un.write mu he k heo) (I.hok.write mu he k heo new)
theorem Inv.weak{σ':List (Option V)}(I:Inv X pins σ H s)(hl:σ'.length=σ.length)(w:∀(i:Nat) v,σ'[i]? =some (some v)->σ[i]? =some (some v)):Inv X pins σ' H s:=
 ⟨I.ok,I.os,I.bare,I.base,let ⟨m,hn,hl'⟩:=I.loc;⟨m,hn,λi x v e1 e2 e3=>hl' i x v e1 (w i v e2) e3⟩,I.cell,I.free,I.Dh,I.pin,I.hok,hl.trans I.len⟩
theorem Inv.ahJ{an7:List (Addr×Obj)}(I:Inv X pins σ H s)(h:∀p∈an7,s.heap.get? p.1=some p.2/\H p.1=none/\p.1≠X.env.locals/\p.1∉X.fs/\∀v,p.2.data≠ .cell v):Inv X an7 σ H s:=
 ⟨I.ok,I.os,I.bare,I.base,I.loc,I.cell,I.free,I.Dh,λp hp=>(d8.mp hp).elim (λz=>I.pin p (akF _ z)) (h p),I.hok,I.len⟩
theorem X4{N:List Str}(hN:N.Nodup){i j:Nat}{x:Str}(a:N[i]? =some x)(b:N[j]? =some x):i=j:=by
 obtain ⟨h1,e1⟩:=aQ.mp a;obtain ⟨h2,e2⟩:=aQ.mp b;exact (List.getElem_inj hN).mp (e1.trans e2.symm)
theorem aaV{M:Model}{A:Around}{E:Value->Shared->Prop}{i:Nat}{x:Str}{v:V}{u:Value}{Q:Unit->Shared->Prop}(I:Inv X pins σ H s)(hN:X.N.Nodup)(hi:X.N[i]? =some x)(hx:Loc X.env.scope x)(r:RelV v u)(h:∀s',Inv X pins (σ.set i (some v)) H s'->(∃a,jj a s.heap s'.heap/\(a=X.env.locals\/X.env.cells.lookup x=some a))->Q () s')(hf:X.fn x=true\/X.env.scope.names.lookup x=some .local:=by first | exact .inl rfl | exact .inr rfl | assumption):wpAny M A (storeName X.env x u) Q E s:=(by apply aj:aa (by
 obtain ⟨m,hn,hl⟩:=id I.loc;have hcls:(X.env.scope.kind== .class || (X.env.scope.kind== .module&&X.env.locals != X.env.globals))=false:=by rw [I.ok.kind];rfl
 have arl:i<σ.length:=by rw [I.len];exact (aQ.mp hi).1
 have cne:=I.cne;have tracked:∀{a:Addr} {h':Heap},(∃o,s.heap.get? a=some o/\H a=none)->jj a s.heap h'->JQ X.prog X.w H h':=λ{a h'} ha hs b ob e=>by
  obtain ⟨_,_,hfree⟩:=ha;refine (I.hok b ob e).stay (λc w' hc q=>(hs.2 c ?_).trans q) (λ_ q=>q) λ_ _ q=>q;rintro rfl;rcases hc with rfl | hc
  ·rw [hfree] at e;cases e
  ·rw [hfree] at hc;cases hc
 rcases hx with hk | hk
 ·refine wpAny_storeName_local hk hn (λh' hn' hs=>?_) hcls;obtain ⟨oL,_,_,hoL,_⟩:=id hn;refine h _ ⟨I.ok,I.os,I.bare,⟨λb o e n hb hx=>?_,λb o e n hb hx=>?_,I.base.free,λb o e hx=>?_,I.base.tups,I.base.V0,I.base.abD⟩,⟨_,hn',λj y v' e1 e2 e3=>?_⟩,λy c e=>?_,I.free,I.Dh,λp hp=>?_,tracked ⟨oL,hoL,I.free⟩ hs,by simpa using I.len⟩ ⟨_,hs,.inl rfl⟩
  ·exact (hs.2 b (b8 (cM (aZ e) I.ok.above))).trans (I.base.keep b o e n hb hx)
  ·obtain ⟨sl,e1⟩:=I.base.slot b o e n hb hx;exact ⟨sl,(hs.2 b (b8 (cM (aZ e) I.ok.above))).trans e1⟩
  ·obtain ⟨o',e1⟩:=I.base.there b o e hx;exact ⟨o',(hs.2 b (b8 (cM (aZ e) I.ok.above))).trans e1⟩
  ·by_cases hj:j=i
   ·subst hj;rw [hi] at e1;cases e1;rw [fQ arl] at e2;cases e2;exact ⟨u,r,.inl ⟨hk,by simp⟩⟩
   ·rw [fV (cO hj)] at e2;obtain ⟨u',r',q⟩:=hl j y v' e1 e2 e3;refine ⟨u',r',?_⟩;rcases q with ⟨k,e⟩ | ⟨k,c,e,z⟩
    ·refine .inl ⟨k,?_⟩;have:y≠x:=λe=>hj (X4 hN e1 (e▸hi));simp [this,e]
    ·exact .inr ⟨k,c,e,z.sameBut hs (cne y c e)⟩
  ·obtain ⟨w',z⟩:=I.cell y c e;exact ⟨w',z.sameBut hs (cne y c e)⟩
  ·obtain ⟨e,n,ne,nf,d⟩:=I.pin p hp;exact ⟨(hs.2 p.1 ne).trans e,n,ne,nf,d⟩
 ·have hfn:X.fn x=true:=by
   rcases hf with z | z
   ·exact z
   ·rw [z] at hk;cases hk
  obtain ⟨c,hc⟩:=I.ok.has x (.inl hk);obtain ⟨w',z⟩:=I.cell x c hc;refine wpAny_storeName_cell I.ok.kind hk hc z (λh' hc' hs=>?_);obtain ⟨oc,hoc,at8⟩:=id z;refine h {s with heap:=h'} ⟨I.ok,I.os,I.bare,⟨λb o e n hb hx=>?_,λb o e n hb hx=>?_,I.base.free,λb o e hx=>?_,I.base.tups,I.base.V0,I.base.abD⟩,⟨m,hn.sameBut hs (cO (cne x c hc)),λj y v' e1 e2 e3=>?_⟩,λy c' e=>?_,I.free,I.Dh,λp hp=>?_,tracked ⟨oc,hoc,I.Dh x c hc⟩ hs,by simpa using I.len⟩ ⟨c,hs,.inr hc⟩
  ·exact (hs.2 b (b8 (cM (aZ e) (I.ok.cab x c hfn hc)))).trans (I.base.keep b o e n hb hx)
  ·obtain ⟨sl,e1⟩:=I.base.slot b o e n hb hx;exact ⟨sl,(hs.2 b (b8 (cM (aZ e) (I.ok.cab x c hfn hc)))).trans e1⟩
  ·obtain ⟨o',e1⟩:=I.base.there b o e hx;exact ⟨o',(hs.2 b (b8 (cM (aZ e) (I.ok.cab x c hfn hc)))).trans e1⟩
  ·by_cases hj:j=i
   ·subst hj;rw [hi] at e1;cases e1;rw [fQ arl] at e2;cases e2;exact ⟨u,r,.inr ⟨.inl hk,c,hc,hc'⟩⟩
   ·rw [fV (cO hj)] at e2;obtain ⟨u',r',q⟩:=hl j y v' e1 e2 e3;refine ⟨u',r',?_⟩;rcases q with q | ⟨k,c',e,z'⟩
    ·exact .inl q
    ·refine .inr ⟨k,c',e,z'.sameBut hs ?_⟩;rintro rfl;exact hj (X4 hN e1 (I.ok.inj _ _ _ e hc▸hi))
  ·by_cases hcc:c'=c
   ·subst hcc;exact ⟨_,hc'⟩
   ·obtain ⟨w2,z2⟩:=I.cell y c' e;exact ⟨w2,z2.sameBut hs hcc⟩
  ·obtain ⟨e,n,ne,nf,d⟩:=I.pin p hp;refine ⟨(hs.2 p.1 ?_).trans e,n,ne,nf,d⟩;intro q;rw [q,hoc] at e;have q':oc=p.2:=aB e;exact d w' (by rw [<-q'];exact at8)))
theorem W5{M:Model}{A:Around}{E:Value->Shared->Prop}{i:Nat}{x:Str}{v:V}{u:Value}{Q:Unit->Shared->Prop}(I:Inv X pins σ H s)(hN:X.N.Nodup)(hi:X.N[i]? =some x)(hx:Loc X.env.scope x)(r:RelV v u)(h:∀s',Inv X pins (σ.set i (some v)) H s'->Q () s')(hf:X.fn x=true\/X.env.scope.names.lookup x=some .local:=by first | exact .inl rfl | exact .inr rfl | assumption):wpAny M A (storeName X.env x u) Q E s:=
 aaV I hN hi hx r (λs' I' _=>h s' I') hf
theorem Inv.call'{s':Shared}{ch:List Addr}(I:Inv X pins σ H s)(ho:s'.os=s.os)(u:Un (frs X.stack) ch H H' s.heap s'.heap)(hok:JQ X.prog X.w H' s'.heap)(hg:AllBare s'.gens)(hch:∀b∈ch,(b∈X.ex\/X.s_0.heap.objs.size<=b)/\b≠X.env.locals/\(∀x c,X.env.cells.lookup x=some c->c≠b)/\∀p∈X.pn++pins,p.1≠b):Inv X pins σ H' s':=by
 obtain ⟨h',g',d',t',o'⟩:=s';have e:o'=s.os:=ho;subst e;exact I.call (g':=g') (t':=t') (d':=d') u hok hg hch
end
abbrev XK:=Value->Option Addr->Hp->Prop
abbrev St:=List (Option V)
abbrev VK:=V->Hp->Prop
abbrev TE:=St->Hp->VK->Prop
abbrev TT:=St->Hp->(Bool->Hp->Prop)->Prop
abbrev TA:=St->Hp->(List V->Hp->Prop)->Prop
structure Ends where
 nx:St->Hp->Prop
 rt:VK
 bk:St->Hp->Prop:=λ_ _=>False
 ct:St->Hp->Prop:=λ_ _=>False
abbrev TS:=Ends->St->Hp->Prop
inductive EP(X:Cx)(pins:List (Addr×Obj))(σ:St)(Q:VK)(u:Value)(s':Shared):Prop
 |mk (v:V) (H':Hp) (_:Inv X pins σ H' s') (_:RelV v u) (_:Q v H')
inductive TP(X:Cx)(pins:List (Addr×Obj))(σ:St)(Q:Bool->Hp->Prop)(b:Bool)(s':Shared):Prop
 |mk (H':Hp) (_:Inv X pins σ H' s') (_:Q b H')
inductive AP(X:Cx)(pins:List (Addr×Obj))(σ:St)(Q:List V->Hp->Prop)(us:List Value)(s':Shared):Prop
 |mk (vs:List V) (H':Hp) (_:Inv X pins σ H' s') (_:Vals vs us) (_:Q vs H')
def SP(X:Cx)(pins:List (Addr×Obj))(D:Ends)(f:Flow)(s':Shared):Prop:=
 match f with
 |.next=>∃σ' H',Inv X pins σ' H' s'/\D.nx σ' H'
 |.brk=>∃σ' H',Inv X pins σ' H' s'/\D.bk σ' H'
 |.cont=>∃σ' H',Inv X pins σ' H' s'/\D.ct σ' H'
 |.ret u=>∃v σ' H',Inv X pins σ' H' s'/\RelV v u/\D.rt v H'
def PE(X:Cx)(e:Expr)(t:TE):Prop:=
 ∀(pins:List (Addr×Obj)) (s:Shared) (σ:St) (H:Hp) (Q:VK),Inv X pins σ H s->t σ H Q->wpAny (model X.prog X.w) X.A (eval e X.env) (EP X pins σ Q) X.xe s
def PT(X:Cx)(e:Expr)(t:TT):Prop:=
 ∀(pins:List (Addr×Obj)) (s:Shared) (σ:St) (H:Hp) (Q:Bool->Hp->Prop),Inv X pins σ H s->t σ H Q->wpAny (model X.prog X.w) X.A (isTrue e X.env (eval e X.env)) (TP X pins σ Q) X.xe s
def PW(X:Cx)(e:Expr)(t:TT):Prop:=
 ∀(whole:Sem Value) (pins:List (Addr×Obj)) (s:Shared) (σ:St) (H:Hp) (Q:Bool->Hp->Prop),Inv X pins σ H s->t σ H Q->wpAny (model X.prog X.w) X.A (isTrue e X.env whole) (TP X pins σ Q) X.xe s
theorem PW.pt{X:Cx}{e:Expr}{t:TT}(h:PW X e t):PT X e t:=h _
def PA(X:Cx)(es:List Expr)(t:TA):Prop:=
 ∀(pos:Pos) (pins:List (Addr×Obj)) (s:Shared) (σ:St) (H:Hp) (Q:List V->Hp->Prop),Inv X pins σ H s->t σ H Q->wpAny (model X.prog X.w) X.A (spliced (backTo pos (starEach es X.env))) (AP X pins σ Q) X.xe s
def PS(X:Cx)(st:Stmt)(t:TS):Prop:=
 ∀(pins:List (Addr×Obj)) (s:Shared) (σ:St) (H:Hp) (D:Ends),Inv X pins σ H s->t D σ H->wpAny (model X.prog X.w) X.A (exec st X.env) (SP X pins D) X.xe s
def PSs(X:Cx)(st:List Stmt)(t:TS):Prop:=
 ∀(pins:List (Addr×Obj)) (s:Shared) (σ:St) (H:Hp) (D:Ends),Inv X pins σ H s->t D σ H->wpAny (model X.prog X.w) X.A (execs st X.env) (SP X pins D) X.xe s
theorem jL{α:Type}{t:Sem α}{Q Q':α->Shared->Prop}{M:Model}{A:Around}{E:Value->Shared->Prop}{s:Shared}(h:wpAny M A t Q E s)(hQ:∀a s,Q a s->Q' a s):wpAny M A t Q' E s:=wpAny_mono h hQ λ_ _ x=>x
end L2
namespace L2
open PySem PySem.Spec PyProof.Rows
section
variable {X:Cx}
theorem bin{a b:Expr}{ta tb:TE}(ha:PE X a ta)(hb:PE X b tb){pins:List (Addr×Obj)}{s:Shared}{σ:St}{H:Hp}{R:V->V->Hp->Prop}(I:Inv X pins σ H s)(h:ta σ H λx H1=>tb σ H1 λy H2=>R x y H2){α:Type}{Q:α->Shared->Prop}{f:Value->Value->Sem α}(hf:∀v u s2 x y H2,Inv X pins σ H2 s2->RelV x v->RelV y u->R x y H2->wpAny (model X.prog X.w) X.A (f v u) Q X.xe s2):
  wpAny (model X.prog X.w) X.A (eval a X.env) (λv s₁=>wpAny (model X.prog X.w) X.A (eval b X.env) (λu s₂=>wpAny (model X.prog X.w) X.A (f v u) Q X.xe s₂) X.xe s₁) X.xe s:=by
 refine jL (ha pins s σ H _ I h) λv s1 ⟨x,H1,I1,r1,q1⟩=>?_;refine jL (hb pins s1 σ H1 _ I1 q1) λu s2 ⟨y,H2,I2,r2,q2⟩=>?_;exact hf v u s2 x y H2 I2 r1 r2 q2
def aiK(i:Nat):TE:=λσ H Q=>match σ[i]? with | some (some v)=>Q v H | _=>False
theorem amJ{i:Nat}{σ:St}{H:Hp}{Q:VK}(h:aiK i σ H Q):∃v,σ[i]? =some (some v)/\Q v H:=by
 unfold aiK at h;split at h
 ·exact ⟨_,by assumption,h⟩
 ·exact h.elim
theorem amI{i:Nat}{v:V}{σ:St}{H:Hp}{Q:VK}(e:σ[i]? =some (some v))(h:Q v H):aiK i σ H Q:=by
 unfold aiK;rw [e];exact h
def tC(v:V):TE:=λ_ H Q=>Q v H
theorem alc{i:Nat}{x:Str}{pos:Pos}(hN:X.N[i]? =some x)(hv:Vis X.env.scope x)(hd:(x==("__debug__":Str))=false:=by decide)(hcd:(x==("__classdict__":Str))=false:=by decide):PE X (.Name x pos) (aiK i):=(by apply aj:aa (by
 intro pins s σ H Q I h;obtain ⟨v,e,h⟩:=amJ h;obtain ⟨m,hn,hl⟩:=I.loc;obtain ⟨u,r,l⟩:=hl i x v hN e hv;have fin:EP X pins σ Q u s:=⟨v,H,I,r,h⟩;rcases l with ⟨hk,hm⟩ | ⟨hk,c,hc,hcell⟩
 ·exact wpAny_Name (wpAny_loadName_local I.ok.kind hk hn hm fin) hd
 ·rcases hk with hk | hk
  ·exact wpAny_Name (wpAny_loadName_cell I.ok.kind hk hc hcell fin) hd
  ·exact wpAny_Name (wpAny_loadName_free I.ok.kind hk hc hcell fin hcd) hd))
theorem bG{i j pos}:PE X (.Constant (.int i) j pos) (tC (.int i)):=λ_ _ _ H _ I h=>wpAny_Constant_int ⟨.int i,H,I.tok _,⟨_,rfl⟩,h⟩
theorem Js{b j pos}:PE X (.Constant (.bool b) j pos) (tC (.bl b)):=λ_ _ _ H _ I h=>Constant_bool ⟨.bl b,H,I,rfl,h⟩
theorem nY{j pos}:PE X (.Constant .none j pos) (tC .non):=λ_ _ _ H _ I h=>Constant_none ⟨.non,H,I,rfl,h⟩
theorem pI{x j pos}:PE X (.Constant (.str x) j pos) (tC (.str x)):=λ_ _ _ H _ I h=>Calls.Constant_str ⟨.str x,H,I.tok _,⟨_,rfl⟩,h⟩
def Gl(X:Cx)(x:Str):Prop:=X.env.kindOf x=some .globalImplicit
theorem We{E:Value->Shared->Prop}{pins:List (Addr×Obj)}{s:Shared}{σ:St}{H:Hp}{x:Str}{u:Value}{pos:Pos}{Q:Value->Shared->Prop}(I:Inv X pins σ H s)(hg:Gl X x)(hm:X.mg x=some u)(h:Q u s)(hd:(x==("__debug__":Str))=false:=by decide):wpAny (model X.prog X.w) X.A (eval (.Name x pos) X.env) Q E s:=
 adu I.ok.kind hg (Calls.loadGlobal_global (by rw [I.ok.glob];exact I.mod.glob.keeps I.bk) hm h) hd
theorem KZ{E:Value->Shared->Prop}{pins:List (Addr×Obj)}{s:Shared}{σ:St}{H:Hp}{x:Str}{u:Value}{pos:Pos}{Q:Value->Shared->Prop}(I:Inv X pins σ H s)(hg:Gl X x)(hm:X.mg x=none)(hv:bootBuiltins x=some u)(h:Q u s)(hn:x≠"__name__":=by decide)(hd:(x==("__debug__":Str))=false:=by decide):wpAny (model X.prog X.w) X.A (eval (.Name x pos) X.env) Q E s:=by
 obtain ⟨mb,h1,h2⟩:=I.mod.blt;exact adu I.ok.kind hg (Calls.loadGlobal_builtin (by rw [I.ok.glob];exact I.mod.glob.keeps I.bk) hm (by rw [I.ok.blt];exact h1.keeps I.bk) ((h2 x hn).trans hv) h) hd
theorem am5{x:Str}{v:V}{u:Value}{pos:Pos}(hg:Gl X x)(hm:X.mg x=some u)(r:RelV v u)(hd:(x==("__debug__":Str))=false:=by decide):PE X (.Name x pos) (tC v):=
 λ_ _ _ H _ I h=>We I hg hm ⟨v,H,I,r,h⟩ hd
variable {a b:Expr} {ta tb:TE} {pos:Pos}
def PC(X:Cx)(op:CmpOp)(a b:Expr)(t:TE):Prop:=
 ∀(pins:List (Addr×Obj)) (s:Shared) (σ:St) (H:Hp) (Q:VK),Inv X pins σ H s->t σ H Q->
  wpAny (model X.prog X.w) X.A (eval a X.env) (λv s₁=>wpAny (model X.prog X.w) X.A (eval b X.env) (λu s₂=>wpAny (model X.prog X.w) X.A (compareOp op v u) (EP X pins σ Q) X.xe s₂) X.xe s₁) X.xe s
theorem aer(b:Expr){op:CmpOp}(h:op≠ .In)(h2:op≠ .NotIn):behindInMarks op b=false:=by
 have e1:(op==CmpOp.In)=false:=by cases op<;>first | rfl | exact absurd rfl h
 have e2:(op==CmpOp.NotIn)=false:=by cases op<;>first | rfl | exact absurd rfl h2
 cases b<;>simp [behindInMarks,e1,e2]
def tB(t:TE):TT:=λσ H Q=>t σ H λx H1=>∃c,x= .bl c/\Q c H1
theorem aoW{op:CmpOp}{t:TE}(h:PC X op a b t)(h1:behindInMarks op b=false:=by first | exact aer _ (by decide) (by decide) | rfl):PE X (.Compare a [op] [b] pos) t:=λpins s σ H Q I hw=>wpAny_Compare1 (h pins s σ H Q I hw) h1
theorem afZ{op:CmpOp}{t:TE}(h:PC X op a b t)(h1:behindInMarks op b=false:=by first | exact aer _ (by decide) (by decide) | rfl):PT X (.Compare a [op] [b] pos) (tB t):=by
 intro pins s σ H Q I hw;refine wpAny_isTrue_Compare1 (jL (h pins s σ H _ I hw) λv s1 h1=>jL h1 λu s2 h2=>jL h2 λc s3 ⟨x,H1,I1,r1,q1⟩=>?_) h1;obtain ⟨d,rfl,q⟩:=q1;cases r1;exact wpAny_truthy_bool ⟨H1,I1,q⟩
theorem lN{e:Expr}{t:TE}(h:PE X e t)(he:∀whole,isTrue e X.env whole=(do let v <-whole;standAt e.pos;holding [v] (truthy v)):=by intro _;rfl):PT X e (tB t):=by
 intro pins s σ H Q I hw;refine isTrue_plain (jL (h pins s σ H _ I hw) λv s1 ⟨x,H1,I1,r1,q1⟩=>?_) (he _);obtain ⟨d,rfl,q⟩:=q1;cases r1;exact wpAny_truthy_bool ⟨H1,I1,q⟩
variable {tA tB':TT} {rest:List Expr}
def asY(t u:TT):TT:=λσ H Q=>t σ H λc H1=>if c=true then u σ H1 Q else Q false H1
def tOr(t u:TT):TT:=λσ H Q=>t σ H λc H1=>if c=true then Q true H1 else u σ H1 Q
def asR(t:TT):TT:=λσ H Q=>t σ H λc H1=>Q (!c) H1
theorem pw_and1(ha:PT X a tA):PW X (.BoolOp .And [a] pos) tA:=by
 intro wh pins s σ H Q I h;refine isTrue_and (jL (ha pins s σ H Q I h) λc s1 e=>?_);cases c with
 |true=>exact isTrue_and_nil e
 |false=>exact e
theorem pw_or1(ha:PT X a tA):PW X (.BoolOp .Or [a] pos) tA:=by
 intro wh pins s σ H Q I h;refine isTrue_or (jL (ha pins s σ H Q I h) λc s1 e=>?_);cases c with
 |false=>exact isTrue_or_nil e
 |true=>exact e
theorem pw_and(ha:PT X a tA)(hb:PW X (.BoolOp .And (b::rest) pos) tB'):PW X (.BoolOp .And (a::b::rest) pos) (asY tA tB'):=by
 intro wh pins s σ H Q I h;refine isTrue_and (jL (ha pins s σ H _ I h) λc s1 ⟨H1,I1,q1⟩=>?_);cases c with
 |true=>exact hb wh pins s1 σ H1 Q I1 q1
 |false=>exact ⟨H1,I1,q1⟩
theorem pw_or(ha:PT X a tA)(hb:PW X (.BoolOp .Or (b::rest) pos) tB'):PW X (.BoolOp .Or (a::b::rest) pos) (tOr tA tB'):=by
 intro wh pins s σ H Q I h;refine isTrue_or (jL (ha pins s σ H _ I h) λc s1 ⟨H1,I1,q1⟩=>?_);cases c with
 |true=>exact ⟨H1,I1,q1⟩
 |false=>exact hb wh pins s1 σ H1 Q I1 q1
theorem kO(ha:PT X a tA):PT X (.UnaryOp .Not a pos) (asR tA):=by
 intro pins s σ H Q I h;exact isTrue_not (jL (ha pins s σ H (λc H1=>Q (!c) H1) I h) λ_ _ ⟨H1,I1,q⟩=>⟨H1,I1,q⟩)
def aqG(ta tb:TE):TE:=λσ H Q=>ta σ H λx H1=>∃c,x= .bl c/\if c=true then tb σ H1 Q else Q (.bl false) H1
def asQ(ta tb:TE):TE:=λσ H Q=>ta σ H λx H1=>∃c,x= .bl c/\if c=true then Q (.bl true) H1 else tb σ H1 Q
def auQ(ta:TE):TE:=λσ H Q=>ta σ H λx H1=>∃c,x= .bl c/\Q (.bl (!c)) H1
theorem acf{op}{t:TE}(h:PE X a t):PE X (.BoolOp op [a] pos) t:=λpins s σ H Q I hw=>BoolOp_one (h pins s σ H Q I hw)
theorem aoX(ha:PE X a ta)(hb:PE X (.BoolOp .And (b::rest) pos) tb):PE X (.BoolOp .And (a::b::rest) pos) (aqG ta tb):=by
 intro pins s σ H Q I h;refine BoolOp_and (jL (ha pins s σ H _ I h) λv s1 ⟨x,H1,I1,r1,q1⟩=>?_);obtain ⟨c,rfl,q1⟩:=q1;cases r1;refine wpAny_truthy_bool ?_;cases c with
 |true=>exact hb pins s1 σ H1 Q I1 q1
 |false=>exact ⟨.bl false,H1,I1,rfl,q1⟩
theorem ale(ha:PE X a ta)(hb:PE X (.BoolOp .Or (b::rest) pos) tb):PE X (.BoolOp .Or (a::b::rest) pos) (asQ ta tb):=by
 intro pins s σ H Q I h;refine BoolOp_or (jL (ha pins s σ H _ I h) λv s1 ⟨x,H1,I1,r1,q1⟩=>?_);obtain ⟨c,rfl,q1⟩:=q1;cases r1;refine wpAny_truthy_bool ?_;cases c with
 |false=>exact hb pins s1 σ H1 Q I1 q1
 |true=>exact ⟨.bl true,H1,I1,rfl,q1⟩
def tIf(t:TT)(ta tb:TE):TE:=λσ H Q=>t σ H λc H1=>if c=true then ta σ H1 Q else tb σ H1 Q
theorem xX{c:Expr}(hc:PT X c tA)(ha:PE X a ta)(hb:PE X b tb):PE X (.IfExp c a b pos) (tIf tA ta tb):=by
 intro pins s σ H Q I h;refine wpAny_IfExp (jL (hc pins s σ H _ I h) λd s1 ⟨H1,I1,q1⟩=>?_);cases d with
 |true=>exact ha pins s1 σ H1 Q I1 q1
 |false=>exact hb pins s1 σ H1 Q I1 q1
end
end L2
namespace L2
open PySem PySem.Spec PyProof.Rows
def cY(K:az)(H:Hp)(a:Addr)(xs:List V):Prop:=
 Rd H a (.lst xs)\/
  ∃(o:Obj) (its:Array Value) (n:Nat),K.lookup a=some o/\o.cls= .type "list"/\o.dict=none/\o.data= .seq its n/\its.size<=sizeLine/\Vals xs its.toList
def Ol(K:az)(H:Hp)(a:Addr)(xs:List V):Prop:=
 Rd H a (.tup xs)\/
  ∃(o:Obj) (its:Array Value) (n:Nat),K.lookup a=some o/\o.cls= .type "tuple"/\o.data= .seq its n/\its.size<=sizeLine/\Vals xs its.toList
noncomputable def auJ:Value->Option V
 |.none=>some .non
 |.bool b=>some (.bl b)
 |.int i _=>some (.int i)
 |.str x _=>some (.str x)
 |.bytes b _=>some (.byt b)
 |.float b _=>some (.flt b)
 |.ref a=>some (.ref a)
 |.type n=>some (.ty n)
 |_=>none
theorem RelV.abs{x:V}{u:Value}(r:RelV x u):auJ u=some x:=by
 cases x with
 |non=>cases r;rfl
 |bl _=>cases r;rfl
 |int _=>obtain ⟨t,rfl⟩:=r;rfl
 |str _=>obtain ⟨t,rfl⟩:=r;rfl
 |byt _=>obtain ⟨t,rfl⟩:=r;rfl
 |flt _=>obtain ⟨t,rfl⟩:=r;rfl
 |ref _=>cases r;rfl
 |ty _=>cases r;rfl
theorem RelV.inj{x y:V}{u:Value}(r:RelV x u)(q:RelV y u):x=y:=aB (r.abs.symm.trans q.abs)
theorem Vals.inj{xs ys:List V}{us:List Value}(h:Vals xs us)(k:Vals ys us):xs=ys:=by
 induction h generalizing ys with
 |nil=>cases k;rfl
 |cons r t ih=>cases k with | cons r' t'=>rw [r.inj r',ih t']
section
variable {X:Cx} {pins:List (Addr×Obj)} {σ:St} {H:Hp} {s:Shared} {a:Addr} {xs ys:List V}
theorem cY.of{K:az}(h:H a=some (.lst xs)):cY K H a xs:=.inl (.inl h)
theorem Ol.of{K:az}(h:H a=some (.tup xs)):Ol K H a xs:=.inl (.inl h)
theorem Inv.list(I:Inv X pins σ H s)(h:cY X.K H a xs):∃its:List Value,Vals xs its/\PlainL s.heap a its.toArray/\xs.length<=sizeLine:=by
 rcases h with h | ⟨o,its,n,hk,hc,hd,hs,hz,r⟩
 ·obtain ⟨z,its,n,r,e⟩:=h.ok I.hok;exact ⟨its,r,⟨_,n,e,rfl,rfl,rfl⟩,z⟩
 ·refine ⟨its.toList,r,⟨o,n,I.kIn a o hk,hc,hd,by simpa using hs⟩,?_⟩;have e:=r.length;simp only [gb] at e;omega
theorem Inv.tuple(I:Inv X pins σ H s)(h:Ol X.K H a xs):∃its:List Value,Vals xs its/\IsTup s.heap a its.toArray/\xs.length<=sizeLine:=by
 rcases h with h | ⟨o,its,n,hk,hc,hs,hz,r⟩
 ·obtain ⟨z,its,r,p⟩:=h.ok I.hok;exact ⟨its,r,p,z⟩
 ·refine ⟨its.toList,r,⟨o,I.kIn a o hk,hc,n,by simpa using hs⟩,?_⟩;have e:=r.length;simp only [gb] at e;omega
theorem Inv.Bm(I:Inv X pins σ H s)(h:cY X.K H a xs)(h':cY X.K H a ys):xs=ys:=by
 obtain ⟨its,r,⟨o,n,e,_,_,d⟩,_⟩:=I.list h;obtain ⟨its',r',⟨o',n',e',_,_,d'⟩,_⟩:=I.list h';rw [e] at e';cases e';rw [d] at d';injection d' with d1 _
 have:its=its':=by simpa using congrArg aiv d1
 subst this;exact r.inj r'
theorem Inv.aiH(I:Inv X pins σ H s)(h:Ol X.K H a xs)(h':Ol X.K H a ys):xs=ys:=by
 obtain ⟨its,r,⟨o,e,_,n,d⟩,_⟩:=I.tuple h;obtain ⟨its',r',⟨o',e',_,n',d'⟩,_⟩:=I.tuple h';rw [e] at e';cases e';rw [d] at d';injection d' with d1 _
 have:its=its':=by simpa using congrArg aiv d1
 subst this;exact r.inj r'
end
noncomputable abbrev Cx.wish (X:Cx) (E:Value->Shared->Prop):Cx:={X with xe:=E}
noncomputable abbrev Cx.nox (X:Cx):Cx:=X.wish λ_ _=>False
theorem Cx.Ok.wish{X:Cx}(ok:X.Ok)(E:Value->Shared->Prop):(X.wish E).Ok:=
 ⟨ok.mod,ok.kind,ok.glob,ok.blt,ok.above,ok.inj,ok.has,ok.cab,ok.hd,ok.frames,ok.stk,ok.exf,ok.bs,ok.bsz,ok.alj,ok.ame,ok.VV,ok.frf⟩
theorem Cx.Ok.J4{X:Cx}{E:Value->Shared->Prop}(ok:(X.wish E).Ok):X.Ok:=
 ⟨ok.mod,ok.kind,ok.glob,ok.blt,ok.above,ok.inj,ok.has,ok.cab,ok.hd,ok.frames,ok.stk,ok.exf,ok.bs,ok.bsz,ok.alj,ok.ame,ok.VV,ok.frf⟩
section
variable {X:Cx} {pins:List (Addr×Obj)} {σ:St} {H:Hp} {s:Shared} {E:Value->Shared->Prop}
theorem Inv.wish(I:Inv X pins σ H s)(E:Value->Shared->Prop):Inv (X.wish E) pins σ H s:=⟨I.ok.wish E,I.os,I.bare,I.base,I.loc,I.cell,I.free,I.Dh,I.pin,I.hok,I.len⟩
theorem Inv.J4(I:Inv (X.wish E) pins σ H s):Inv X pins σ H s:=⟨I.ok.J4,I.os,I.bare,I.base,I.loc,I.cell,I.free,I.Dh,I.pin,I.hok,I.len⟩
theorem SP.J4{D:Ends}{f:Flow}{s':Shared}(h:SP (X.wish E) pins D f s'):SP X pins D f s':=by
 cases f with
 |next=>obtain ⟨σ',H',I,q⟩:=h;exact ⟨σ',H',I.J4,q⟩
 |brk=>obtain ⟨σ',H',I,q⟩:=h;exact ⟨σ',H',I.J4,q⟩
 |cont=>obtain ⟨σ',H',I,q⟩:=h;exact ⟨σ',H',I.J4,q⟩
 |ret u=>obtain ⟨v,σ',H',I,r,q⟩:=h;exact ⟨v,σ',H',I.J4,r,q⟩
theorem PSs.nox{st:List Stmt}{t:TS}(h:PSs X.nox st t):PSs X st t:=λpins s σ H D I hw=>
 wpAny_mono (h pins s σ H D (I.wish _) hw) (λ_ _ q=>q.J4) λ_ _ z=>gZ z
end
section
variable {X:Cx} {st:Stmt} {rest:List Stmt} {t u:TS} {e:Expr} {te:TE} {pos:Pos}
def aqy:TS:=λD σ H=>D.nx σ H
def aqw(t u:TS):TS:=λD σ H=>t {D with nx:=u D} σ H
theorem b7:PSs X [] aqy:=λ_ _ σ H _ I h=>wpAny_execs_nil ⟨σ,H,I,h⟩
theorem aL(h1:PS X st t)(h2:PSs X rest u):PSs X (st::rest) (aqw t u):=by
 intro pins s σ H D I h;refine wpAny_execs_cons (jL (h1 pins s σ H {D with nx:=u D} I h) λf s1 q=>?_);cases f with
 |next=>
  obtain ⟨σ',H',I',q⟩:=q;exact h2 pins s1 σ' H' D I' q
 |ret v=>exact q
 |brk=>exact q
 |cont=>exact q
theorem aK(h1:PS X st t):PSs X [st] t:=by
 intro pins s σ H D I h;refine wpAny_execs_cons (jL (h1 pins s σ H D I h) λf s1 q=>?_);cases f with
 |next=>exact wpAny_execs_nil q
 |ret v=>exact q
 |brk=>exact q
 |cont=>exact q
theorem Inv.quiet{pins:List (Addr×Obj)}{σ:St}{H:Hp}{s:Shared}(I:Inv X pins σ H s):interactive X.env=false:=by simp [interactive,I.ok.kind]
def aqD(te:TE):TS:=λD σ H=>te σ H λ_ H1=>D.nx σ H1
theorem jn(he:PE X e te)(hs:swapsWith e none pos.line X.env=pure false:=by rfl):PS X (.Expr e pos) (aqD te):=by
 intro pins s σ H D I h;exact wpAny_Expr_any (jL (he pins s σ H _ I h) λv s1 ⟨x,H1,I1,r1,q1⟩=>⟨σ,H1,I1,q1⟩) I.quiet hs
def asO(te:TE):TS:=λD σ H=>te σ H D.rt
theorem bB(he:PE X e te):PS X (.Return (some e) pos) (asO te):=by
 intro pins s σ H D I h;exact wpAny_Return_some (jL (he pins s σ H _ I h) λv s1 ⟨x,H1,I1,r1,q1⟩=>⟨x,σ,H1,I1,r1,q1⟩)
def auP:TS:=λD _ H=>D.rt .non H
def asU(c:TT)(t u:TS):TS:=λD σ H=>c σ H λb H1=>if b=true then t D σ H1 else u D σ H1
theorem dW{c:Expr}{a b:List Stmt}{tc:TT}(hc:PT X c tc)(ha:PSs X a t)(hb:PSs X b u):PS X (.If c a b pos) (asU tc t u):=by
 intro pins s σ H D I h;refine wpAny_If (jL (hc pins s σ H _ I h) λd s1 ⟨H1,I1,q1⟩=>?_);cases d with
 |true=>exact ha pins s1 σ H1 D I1 q1
 |false=>exact hb pins s1 σ H1 D I1 q1
end
abbrev TG:=V->St->Hp->(St->Hp->Prop)->Prop
abbrev TGs:=List V->St->Hp->(St->Hp->Prop)->Prop
def PG(X:Cx)(target:Expr)(t:TG):Prop:=
 ∀(pins:List (Addr×Obj)) (s:Shared) (σ:St) (H:Hp) (v:V) (u:Value) (Q:St->Hp->Prop),Inv X pins σ H s->RelV v u->t v σ H Q->
  wpAny (model X.prog X.w) X.A (assign target X.env u) (λ_ s'=>∃σ' H',Inv X pins σ' H' s'/\Q σ' H') X.xe s
def PGs(X:Cx)(ts:List Expr)(t:TGs):Prop:=
 ∀(pins:List (Addr×Obj)) (s:Shared) (σ:St) (H:Hp) (vs:List V) (us:List Value) (Q:St->Hp->Prop),Inv X pins σ H s->Vals vs us->t vs σ H Q->
  wpAny (model X.prog X.w) X.A (assignInOrder ((assignEach ts X.env).map (·.2)) us) (λ_ s'=>∃σ' H',Inv X pins σ' H' s'/\Q σ' H') X.xe s
abbrev auK:=V->V->V->Hp->(Hp->Prop)->Prop
abbrev TIp:=V->V->Hp->VK->Prop
def PIp(X:Cx)(op:Operator)(t:TIp):Prop:=
 ∀(pins:List (Addr×Obj)) (s:Shared) (σ:St) (H:Hp) (x y:V) (v u:Value) (Q:VK),Inv X pins σ H s->RelV x v->RelV y u->t x y H Q->
  wpAny (model X.prog X.w) X.A (inplaceOp op v u) (EP X pins σ Q) X.xe s
section
variable {X:Cx} {pos:Pos}
def wz(i:Nat):TG:=λv σ H Q=>Q (σ.set i (some v)) H
theorem eZ{i:Nat}{x:Str}(hN:X.N.Nodup)(hi:X.N[i]? =some x)(hx:Loc X.env.scope x)(hf:X.fn x=true\/X.env.scope.names.lookup x=some .local:=by first | exact .inl rfl | exact .inr rfl | assumption):PG X (.Name x pos) (wz i):=by
 intro pins s σ H v u Q I r h;exact wpAny_assign_Name (W5 I hN hi hx r (λs' I'=>⟨_,H,I',h⟩) hf)
def al7:TGs:=λvs σ H Q=>vs=[]/\Q σ H
def Pg(t:TG)(u:TGs):TGs:=λvs σ H Q=>∃v r,vs=v::r/\t v σ H λσ' H'=>u r σ' H' Q
theorem uV:PGs X [] al7:=by
 intro pins s σ H vs us Q I r h;obtain ⟨e,h⟩:=h;subst e;cases r;exact assignInOrder_nil ⟨σ,H,I,h⟩
theorem g8{e:Expr}{es:List Expr}{t:TG}{u:TGs}(h1:PG X e t)(h2:PGs X es u)(hs:(assignEach (e::es) X.env).map (·.2)=assign e X.env::(assignEach es X.env).map (·.2):=by rfl):PGs X (e::es) (Pg t u):=by
 intro pins s σ H vs us Q I r h;obtain ⟨v,vr,e1,h⟩:=h;subst e1;cases r with
 |cons r rr=>
  rw [hs];refine assignInOrder_cons (jL (h1 pins s σ H _ _ _ I r h) λ_ s1 ⟨σ1,H1,I1,q1⟩=>?_);exact h2 pins s1 σ1 H1 _ _ Q I1 rr q1
def ajG(K:az)(n:Nat)(t:TGs):TG:=λv σ H Q=>∃a xs,v= .ref a/\Ol K H a xs/\xs.length=n/\t xs σ H Q
theorem aoU{es:List Expr}{k:Nat}{t:TGs}{n:Nat}(hc:X.calm=true)(h:PGs X es t)(hn:(assignEach es X.env).length=n:=by rfl)(hst:(assignEach es X.env).findIdx? (·.1)=none:=by rfl):PG X (.Tuple es k pos) (ajG X.K n t):=(by apply aj:aa (by
 intro pins s σ H v u Q I r hw;obtain ⟨a,xs,e1,hq,hl,hw⟩:=hw;subst e1;cases r;obtain ⟨its,rv,ht,hz⟩:=I.tuple hq;refine assign_Tuple_tuple (I.ok.hd hc) ht (by simp [hn,<-hl,rv.length]) hst λh' hx=>?_;have I1:Inv X pins σ H {s with heap:=h'}:=I.kept (t':=s.toks) λb o e=>hx b o (b8 (aZ e)) e;exact h pins _ σ H xs _ Q I1 (by simpa using rv) hw))
def anH(to ti:TE)(t:auK):TG:=λv σ H Q=>to σ H λo H1=>ti σ H1 λi H2=>t o i v H2 λH3=>Q σ H3
def aoF(te:TE)(g:TG):TS:=λD σ H=>te σ H λx H1=>g x σ H1 D.nx
theorem aoR{i:Nat}{x:Str}{e:Expr}{te:TE}{pos':Pos}(hN:X.N.Nodup)(hi:X.N[i]? =some x)(hx:Loc X.env.scope x)(he:PE X e te)(hs:swapsWith e (some (.Name x pos')) pos.line X.env=pure false:=by rfl)(hf:X.fn x=true\/X.env.scope.names.lookup x=some .local:=by first | exact .inl rfl | exact .inr rfl | assumption):
  PS X (.Assign [.Name x pos'] e pos) (aoF te (wz i)):=by
 intro pins s σ H D I h;refine wpAny_Assign_Name (jL (he pins s σ H _ I h) λv s1 ⟨y,H1,I1,r1,q1⟩=>?_) hs;exact W5 I1 hN hi hx r1 (λs2 I2=>⟨_,H1,I2,q1⟩) hf
def asW(i:Nat)(te:TE)(ti:TIp):TS:=λD σ H=>∃x,σ[i]? =some (some x)/\te σ H λy H1=>ti x y H1 λz H2=>D.nx (σ.set i (some z)) H2
theorem Xo{i:Nat}{x:Str}{e:Expr}{te:TE}{op:Operator}{ti:TIp}{pos':Pos}(hN:X.N.Nodup)(hi:X.N[i]? =some x)(hx:Loc X.env.scope x)(he:PE X e te)(ho:PIp X op ti)(hf:X.fn x=true\/X.env.scope.names.lookup x=some .local:=by first | exact .inl rfl | exact .inr rfl | assumption):
  PS X (.AugAssign (.Name x pos') op e pos) (asW i te ti):=(by apply aj:aa (by
 intro pins s σ H D I h;obtain ⟨v,e1,h⟩:=h;obtain ⟨m,hn,hl⟩:=I.loc;have vis:Vis X.env.scope x:=by rcases hx with k | k;exact .inl k;exact .inr (.inl k)
 obtain ⟨u,r,l⟩:=hl i x v hi e1 vis;refine wpAny_AugAssign_Name ?_;have go:wpAny (model X.prog X.w) X.A (eval e X.env) (λw s₂=>wpAny (model X.prog X.w) X.A (inplaceOp op u w) (λr s₃=>wpAny (model X.prog X.w) X.A (storeName X.env x r) (λ_=>SP X pins D .next) X.xe s₃) X.xe s₂) X.xe s:=by
  refine jL (he pins s σ H _ I h) λw s1 ⟨y,H1,I1,r1,q1⟩=>?_;refine jL (ho pins s1 σ H1 v y u w _ I1 r r1 q1) λz s2 ⟨zv,H2,I2,r2,q2⟩=>?_;exact W5 I2 hN hi hx r2 (λs3 I3=>⟨_,H2,I3,q2⟩) hf
 rcases l with ⟨hk,hm⟩ | ⟨hk,c,hc,hcell⟩
 ·exact wpAny_loadName_local I.ok.kind hk hn hm go
 ·rcases hk with hk | hk
  ·exact wpAny_loadName_cell I.ok.kind hk hc hcell go
  ·rcases hx with k | k
   ·have:X.env.scope.names.lookup x=some .free:=hk;rw [k] at this;cases this
   ·have:X.env.scope.names.lookup x=some .free:=hk;rw [k] at this;cases this))
def ipI(f:Int->Int->Int):TIp:=λx y H Q=>∃i j,x= .int i/\y= .int j/\Q (.int (f i j)) H
theorem Yt:PIp X .Add (ipI λi j=>i+j):=by
 intro pins s σ H x y v u Q I r1 r2 h;obtain ⟨i,j,e1,e2,q⟩:=h;subst e1;subst e2;obtain ⟨t,rfl⟩:=r1;obtain ⟨t',rfl⟩:=r2;exact iadd_int ⟨.int _,H,I.tok _,⟨_,rfl⟩,q⟩
end
section
variable {X:Cx} {pos:Pos}
def akU(c:TT)(tb:TS):TS:=λD σ H=>∃W:Nat->St->Hp->Prop,(∃m,W m σ H)/\∀m σ H,W m σ H->
 c σ H λb H1=>if b=true then ∃N:St->Hp->Prop,(∀σ' H',N σ' H'->∃m',m'<m/\W m' σ' H')/\tb {D with nx:=N,ct:=N,bk:=D.nx} σ H1 else D.nx σ H1
theorem ad4{c:Expr}{body:List Stmt}{tc:TT}{tb:TS}(hp:PassesOwn (model X.prog X.w) X.A X.env X.xe)(hc:PT X c tc)(hb:PSs X body tb):PS X (.While c body [] pos) (akU tc tb):=(by apply aj:aa (by
 intro pins s σ H D I h;obtain ⟨W,⟨m0,w0⟩,turn⟩:=h;refine wpAny_While (codeAny_whileLoop (λn s'=>∃σ' H',Inv X pins σ' H' s'/\W n σ' H') ?_ m0 ⟨σ,H,I,w0⟩);rintro n s1 ⟨σ1,H1,I1,w1⟩;refine wpAny_passesOwn hp (jL (hc pins s1 σ1 H1 _ I1 (turn n σ1 H1 w1)) λb s2 ⟨H2,I2,q2⟩=>?_);cases b with
 |true=>
  obtain ⟨N,hN,q2⟩:=q2;rw [if_pos rfl];refine wpAny_passesOwn hp (jL (hb pins s2 σ1 H2 _ I2 q2) λf s3 q3=>?_);cases f with
  |next=>
   obtain ⟨σ3,H3,I3,n3⟩:=q3;obtain ⟨m',hm,w3⟩:=hN σ3 H3 n3;exact ⟨m',hm,σ3,H3,I3,w3⟩
  |cont=>
   obtain ⟨σ3,H3,I3,n3⟩:=q3;obtain ⟨m',hm,w3⟩:=hN σ3 H3 n3;exact ⟨m',hm,σ3,H3,I3,w3⟩
  |brk=>exact q3
  |ret v=>exact q3
 |false=>
  rw [if_neg cu];exact wpAny_execs_nil ⟨σ1,H2,I2,q2⟩))
end
structure It where
 go:Nat->Hp->Prop
 yld:Nat->Hp->V->Hp->Prop
 stop:Nat->Hp->Prop
def V6(X:Cx)(pins:List (Addr×Obj))(H:Hp)(b:Addr):Prop:=
 H b=none/\b≠X.env.locals/\b∉X.fs/\(b∈X.ex\/X.s_0.heap.objs.size<=b)/\(∀x c,X.env.cells.lookup x=some c->c≠b)/\∀p∈X.pn++pins,p.1≠b
theorem Inv.agC{X:Cx}{pins:List (Addr×Obj)}{σ:St}{H H':Hp}{s:Shared}{b:Addr}(I:Inv X pins σ H s)(hb:s.heap.objs.size<=b)(hn:H' b=none):V6 X pins H' b:=by
 refine ⟨hn,j7 (cM I.lt hb),I.atx hb,.inr (aY I.sz hb),λx c e z=>?_,λp hp z=>?_⟩
 ·obtain ⟨v,q⟩:=I.cell x c e;exact absurd (cM q.lt (by rw [z];exact hb)) (je _)
 ·exact absurd (cM (aZ (I.pin p hp).1) (by rw [z];exact hb)) (je _)
structure Turn(P:Program)(w:World)(K:az)(tg:Expr)(J:It)(fp:List Addr)(it:Addr)(tn:Nat->Heap->Prop):Prop where
 mem:it∈fp
 obj:∀i h,tn i h->∀b∈fp,∃o,h.get? b=some o/\∀v,o.data≠ .cell v
 keep:∀i h h',tn i h->(∀b∈fp,∀o,h.get? b=some o->h'.get? b=some o)->tn i h'
 item:∀(X:Cx),X.prog=P->X.w=w->X.K=K->X.calm=true->∀(i:Nat) (pins:List (Addr×Obj)) (s:Shared) (σ:St) (H:Hp) (E:Value->Shared->Prop),Inv X pins σ H s->(∀b∈fp,V6 X pins H b)->tn i s.heap->J.go i H->
  wpAny (model P w) X.A (pyNext (.ref it)) (λr s1=>∃u,r=some u/\
   wpAny (model P w) X.A (letOwnedTupleGo tg (.ref it) u) (λ_ s2=>∃x H',Inv X pins σ H' s2/\RelV x u/\J.yld i H x H'/\tn (i+1) s2.heap/\∀b∈fp,H' b=none) E s1) E s
 done:∀(X:Cx),X.prog=P->X.w=w->X.K=K->X.calm=true->∀(i:Nat) (pins:List (Addr×Obj)) (s:Shared) (σ:St) (H:Hp) (E:Value->Shared->Prop),Inv X pins σ H s->(∀b∈fp,V6 X pins H b)->tn i s.heap->J.stop i H->
  wpAny (model P w) X.A (pyNext (.ref it)) (λr s1=>r=none/\Inv X pins σ H s1) E s
 self:∀(A:Around) (i:Nat) (s:Shared) (Q:Value->Shared->Prop) (E:Value->Shared->Prop),tn i s.heap->Q (.ref it) s->wpAny (model P w) A (pyIter (.ref it)) Q E s
abbrev TI:=St->Hp->(It->Hp->Prop)->Prop
def PIE(X:Cx)(pins:List (Addr×Obj))(σ:St)(tg:Expr)(R:It->Hp->Prop)(itv:Value)(s2:Shared):Prop:=
 ∃(it:Addr) (fp:List Addr) (tn:Nat->Heap->Prop) (J:It) (H':Hp),itv= .ref it/\Inv X pins σ H' s2/\Turn X.prog X.w X.K tg J fp it tn/\tn 0 s2.heap/\(∀b∈fp,V6 X pins H' b)/\R J H'
def PI(X:Cx)(tg iter:Expr)(wi:TI):Prop:=
 ∀(pins:List (Addr×Obj)) (s:Shared) (σ:St) (H:Hp) (R:It->Hp->Prop),Inv X pins σ H s->wi σ H R->
  wpAny (model X.prog X.w) X.A (eval iter X.env) (λv s1=>wpAny (model X.prog X.w) X.A (pyIter v) (PIE X pins σ tg R) X.xe s1) X.xe s
theorem ah2{M:Model}{A:Around}{E:Value->Shared->Prop}{s:Shared}{tg:Expr}{it:Addr}{u:Value}{o:Obj}{n:String}{vs:Array Value}{Q:Unit->Shared->Prop}(ho:s.heap.get? it=some o)(hc:o.cls= .type n)(hd:o.data= .fields vs)(hn:["enumerate","zip","dict_itemiterator","dict_reverseitemiterator","odict_iterator","itertools.zip_longest","itertools.pairwise"].contains n=false)(hQ:Q () s):wpAny M A (letOwnedTupleGo tg (.ref it) u) Q E s:=(by apply aj:aa (by
 unfold letOwnedTupleGo;cases tg<;>first
  |exact wpAny_pure hQ
  |(cases u<;>first
    |exact wpAny_pure hQ
    |(refine wpAny_bind (wpAny_load ho ?_)
      rw [hc,hd];show wpAny M A (if (["enumerate","zip","dict_itemiterator","dict_reverseitemiterator","odict_iterator","itertools.zip_longest","itertools.pairwise"].contains n&&vs[0]? ==some (rawInt _))=true then _ else _) Q E s;rw [if_neg (by intro h;rw [hn,eO] at h;cases h)];exact wpAny_pure hQ))))
def Itl(K:az)(a:Addr):It:=
 ⟨λi H=>∃xs x,cY K H a xs/\xs[i]? =some x,λi H x H'=>H'=H/\∀xs,cY K H a xs->xs[i]? =some x,λi H=>∃xs,cY K H a xs/\xs.length<=i⟩
def Itt(K:az)(a:Addr):It:=
 ⟨λi H=>∃xs x,Ol K H a xs/\xs[i]? =some x,λi H x H'=>H'=H/\∀xs,Ol K H a xs->xs[i]? =some x,λi H=>∃xs,Ol K H a xs/\xs.length<=i⟩
theorem aiG{P:Program}{w:World}{K:az}{tg:Expr}(a it:Addr):Turn P w K tg (Itl K a) [it] it (λi h=>h.IsListIter it a i) where
 mem:=by simp
 obj:=λi h st b hb=>by
  have e:b=it:=by simpa using hb
  subst e;obtain ⟨o,e,c,d⟩:=st;exact ⟨o,e,λv z=>by rw [d] at z;cases z⟩
 keep:=λi h h' st k=>st.at λo e=>k it (by simp) o e
 item:=by
  intro X hP hw hK hc i pins s σ H E I hf st hg;subst hP hw hK;obtain ⟨xs,x,hq,hx⟩:=hg;obtain ⟨its,rv,p,hz⟩:=I.list hq;obtain ⟨u,hu,ru⟩:=rv.get hx;obtain ⟨f0,f1,f2,f3,f4,f5⟩:=hf it (by simp);refine wpAny_pyNext_list_item st p.isList (x:=u) (by simpa using hu) λh' st' sb=>?_;have I1:Inv X pins σ H {s with heap:=h'}:=I.turned (t':=s.toks) (λb o hb e=>(sb.2 b hb).trans e) f0 f1 f3 f4 f5;obtain ⟨o,e,c,d⟩:=id st';exact ⟨u,rfl,ah2 (s:={s with heap:=h'}) e c d (by decide) ⟨x,H,I1,ru,⟨rfl,λys hy=>by rw [I.Bm hy hq];exact hx⟩,st',λb hb=>(hf b hb).1⟩⟩
 done:=by
  intro X hP hw hK hc i pins s σ H E I hf st hg;subst hP hw hK;obtain ⟨xs,hq,hx⟩:=hg;obtain ⟨its,rv,p,hz⟩:=I.list hq;obtain ⟨f0,f1,f2,f3,f4,f5⟩:=hf it (by simp);have hl:=rv.length;exact wpAny_pyNext_list_end (I.ok.hd hc) st p.isList (by simp;omega) λh' eb=>⟨rfl,I.turned (t':=s.toks) (λb o hb e=>eb b o hb e) f0 f1 f3 f4 f5⟩
 self:=λ_ _ _ _ _ st h=>wpAny_pyIter_listiter st h
theorem afK{P:Program}{w:World}{K:az}{tg:Expr}(a it:Addr):Turn P w K tg (Itt K a) [it] it (λi h=>h.IsTupleIter it a i) where
 mem:=by simp
 obj:=λi h st b hb=>by
  have e:b=it:=by simpa using hb
  subst e;obtain ⟨o,e,c,d⟩:=st;exact ⟨o,e,λv z=>by rw [d] at z;cases z⟩
 keep:=λi h h' st k=>st.at λo e=>k it (by simp) o e
 item:=by
  intro X hP hw hK hc i pins s σ H E I hf st hg;subst hP hw hK;obtain ⟨xs,x,hq,hx⟩:=hg;obtain ⟨its,rv,p,hz⟩:=I.tuple hq;obtain ⟨u,hu,ru⟩:=rv.get hx;obtain ⟨f0,f1,f2,f3,f4,f5⟩:=hf it (by simp);refine wpAny_pyNext_tuple_item st (show s.heap.IsTuple a its.toArray from p) (x:=u) (by simpa using hu) λh' st' sb=>?_;have I1:Inv X pins σ H {s with heap:=h'}:=I.turned (t':=s.toks) (λb o hb e=>(sb.2 b hb).trans e) f0 f1 f3 f4 f5;obtain ⟨o,e,c,d⟩:=id st';exact ⟨u,rfl,ah2 (s:={s with heap:=h'}) e c d (by decide) ⟨x,H,I1,ru,⟨rfl,λys hy=>by rw [I.aiH hy hq];exact hx⟩,st',λb hb=>(hf b hb).1⟩⟩
 done:=by
  intro X hP hw hK hc i pins s σ H E I hf st hg;subst hP hw hK;obtain ⟨xs,hq,hx⟩:=hg;obtain ⟨its,rv,p,hz⟩:=I.tuple hq;obtain ⟨f0,f1,f2,f3,f4,f5⟩:=hf it (by simp);have hl:=rv.length;exact wpAny_pyNext_tuple_end (I.ok.hd hc) st (show s.heap.IsTuple a its.toArray from p) (by simp;omega) λh' eb=>⟨rfl,I.turned (t':=s.toks) (λb o hb e=>eb b o hb e) f0 f1 f3 f4 f5⟩
 self:=λ_ _ _ _ _ st h=>wpAny_pyIter_tupleiter st h
end L2
namespace L2
open PySem PySem.Spec PyProof.Rows
section
variable {X:Cx} {tg:Expr}
def aq7(K:az)(tl:TE):TI:=λσ H R=>tl σ H λx H1=>∃a,x= .ref a/\(∃xs,cY K H1 a xs)/\R (Itl K a) H1
def atP(K:az)(tl:TE):TI:=λσ H R=>tl σ H λx H1=>∃a,x= .ref a/\(∃xs,Ol K H1 a xs)/\R (Itt K a) H1
theorem uU{l:Expr}{tl:TE}(hl:PE X l tl):PI X tg l (aq7 X.K tl):=(by apply aj:aa (by
 intro pins s σ H R I h;refine jL (hl pins s σ H _ I h) λv s1 ⟨x,H1,I1,r1,q1⟩=>?_;obtain ⟨a,e,⟨xs,hq⟩,q⟩:=q1;subst e;cases r1;obtain ⟨its,rv,p,hz⟩:=I1.list hq;refine wpAny_pyIter_list p.isList ?_;refine ⟨s1.heap.objs.size,[s1.heap.objs.size],_,_,H1,rfl,I1.kept (t':=s1.toks) λb o e=>aA _ e,aiG a _,⟨_,aR _ rfl,rfl,rfl⟩,λb hb=>?_,q⟩;have e:b=s1.heap.objs.size:=by simpa using hb
 subst e;exact I1.agC (aU _) (I1.hok.fresh (aU _))))
theorem alb{l:Expr}{tl:TE}(hl:PE X l tl):PI X tg l (atP X.K tl):=(by apply aj:aa (by
 intro pins s σ H R I h;refine jL (hl pins s σ H _ I h) λv s1 ⟨x,H1,I1,r1,q1⟩=>?_;obtain ⟨a,e,⟨xs,hq⟩,q⟩:=q1;subst e;cases r1;obtain ⟨its,rv,p,hz⟩:=I1.tuple hq;refine wpAny_pyIter_tuple (show s1.heap.IsTuple a its.toArray from p) ?_;refine ⟨s1.heap.objs.size,[s1.heap.objs.size],_,_,H1,rfl,I1.kept (t':=s1.toks) λb o e=>aA _ e,afK a _,⟨_,aR _ rfl,rfl,rfl⟩,λb hb=>?_,q⟩;have e:b=s1.heap.objs.size:=by simpa using hb
 subst e;exact I1.agC (aU _) (I1.hok.fresh (aU _))))
def aqB(wi:TI)(g:TG)(tb:TS):TS:=λD σ H=>wi σ H λJ H1=>∃W:Nat->Nat->St->Hp->Prop,(∃m,W 0 m σ H1)/\∀i m σ H,W i m σ H->
 (J.stop i H/\D.nx σ H)\/(J.go i H/\∃N:St->Hp->Prop,(∀σ' H',N σ' H'->∃m',m'<m/\W (i+1) m' σ' H')/\∀x H',J.yld i H x H'->g x σ H' λσ2 H2=>tb {D with nx:=N,ct:=N,bk:=D.nx} σ2 H2)
noncomputable def Xy (fp:List Addr) (h:Heap):List (Addr×Obj):=fp.filterMap λb=>(h.get? b).map λo=>(b,o)
theorem Qh{fp:List Addr}{h:Heap}{b:Addr}{o:Obj}(hb:b∈fp)(e:h.get? b=some o):(b,o)∈Xy fp h:=Fb.mpr ⟨b,hb,by rw [e];rfl⟩
theorem ai9{fp:List Addr}{h:Heap}{p:Addr×Obj}(hp:p∈Xy fp h):p.1∈fp/\h.get? p.1=some p.2:=by
 obtain ⟨b,hb,e⟩:=Fb.mp hp;cases q:h.get? b with
 |none=>rw [q] at e;cases e
 |some o=>
  rw [q] at e;have e':(b,o)=p:=aB e;subst e';exact ⟨hb,q⟩
theorem Inv.pinned{pins:List (Addr×Obj)}{σ:St}{H:Hp}{s:Shared}{fp:List Addr}(I:Inv X pins σ H s)(hf:∀b∈fp,V6 X pins H b)(ho:∀b∈fp,∃o,s.heap.get? b=some o/\∀v,o.data≠ .cell v):Inv X (pins++Xy fp s.heap) σ H s:=
 I.ahJ λp hp=>(d8.mp hp).elim (λz=>I.pin p (jd _ z)) λz=>by
  obtain ⟨hb,e⟩:=ai9 z;obtain ⟨f0,f1,f2,_⟩:=hf p.1 hb;obtain ⟨o,e',d⟩:=ho p.1 hb;rw [e] at e';cases e';exact ⟨e,f0,f1,f2,d⟩
theorem Inv.Q5{pins pl:List (Addr×Obj)}{σ:St}{H:Hp}{s:Shared}(I:Inv X (pins++pl) σ H s):Inv X pins σ H s:=I.ahJ λp hp=>I.pin p (jd _ (akF _ hp))
theorem Hi{iter:Expr}{body:List Stmt}{wi:TI}{g:TG}{tb:TS}{pos:Pos}(hp:PassesOwn (model X.prog X.w) X.A X.env X.xe)(hc:X.calm=true)(hi:PI X tg iter wi)(hg:PG X tg g)(hb:PSs X body tb)(hs:∀x,foldedSetIterable iter X.env x=pure x:=by intro _;rfl):PS X (.For tg iter body [] pos) (aqB wi g tb):=(by apply aj:aa (by
 intro pins s σ H D I h;refine wpAny_For (jL (hi pins s σ H _ I h) λv s1 h1=>jL h1 λitv s2 h2=>?_) hs;obtain ⟨it,fp,tn,J,H2,e,I2,T,st2,f2,W,⟨m0,w0⟩,turn⟩:=h2;subst e;have stat:∀{H':Hp},(∀b∈fp,H' b=none)->∀b∈fp,V6 X pins H' b:=λhn b hb=>⟨hn b hb,(f2 b hb).2⟩;refine codeAny_forLoop_any (λn s'=>∃i σ' H',Inv X pins σ' H' s'/\tn i s'.heap/\(∀b∈fp,H' b=none)/\W i n σ' H') ?_ m0 ⟨0,σ,H2,I2,st2,λb hb=>(f2 b hb).1,w0⟩;rintro n s3 ⟨i,σ3,H3,I3,st3,fr3,w3⟩;rcases turn i n σ3 H3 w3 with ⟨stop,qn⟩ | ⟨go,N,hN,step⟩
 ·refine wpAny_passesOwn hp (jL (T.done X rfl rfl rfl hc i pins s3 σ3 H3 X.xe I3 (stat fr3) st3 stop) λr s4 ⟨hr,I4⟩=>?_);subst hr;exact wpAny_execs_nil ⟨σ3,H3,I4,qn⟩
 ·refine wpAny_passesOwn hp (jL (T.item X rfl rfl rfl hc i pins s3 σ3 H3 X.xe I3 (stat fr3) st3 go) λr s4 ⟨u,hr,h4⟩=>?_);subst hr;refine wpAny_passesOwn hp (jL h4 λ_ s5 ⟨x,H5,I5,r5,y5,st5,fr5⟩=>?_);have I5':=I5.pinned (stat fr5) (T.obj _ _ st5);refine wpAny_passesOwn hp (jL (hg _ s5 σ3 H5 x u _ I5' r5 (step x H5 y5)) λ_ s6 ⟨σ6,H6,I6,q6⟩=>?_);refine wpAny_passesOwn hp (jL (hb _ s6 σ6 H6 _ I6 q6) λf s7 q7=>?_);have again:∀{σ7:St} {H7:Hp},Inv X (pins++Xy fp s5.heap) σ7 H7 s7->N σ7 H7->∃m,m<n/\∃i σ' H',Inv X pins σ' H' s7/\tn i s7.heap/\(∀b∈fp,H' b=none)/\W i m σ' H':=λ{σ7 H7} I7 n7=>by
   obtain ⟨m',hm,w7⟩:=hN σ7 H7 n7;refine ⟨m',hm,i+1,σ7,H7,I7.Q5,T.keep _ _ _ st5 λb hb o e=>(I7.pin (b,o) (jd _ (jd _ (Qh hb e)))).1,λb hb=>?_,w7⟩;obtain ⟨o,e,d⟩:=T.obj _ _ st5 b hb;exact (I7.pin (b,o) (jd _ (jd _ (Qh hb e)))).2.1
  cases f with
  |next=>obtain ⟨σ7,H7,I7,n7⟩:=q7;exact again I7 n7
  |cont=>obtain ⟨σ7,H7,I7,n7⟩:=q7;exact again I7 n7
  |brk=>obtain ⟨σ7,H7,I7,q7⟩:=q7;exact ⟨σ7,H7,I7.Q5,q7⟩
  |ret v=>obtain ⟨x7,σ7,H7,I7,r7,q7⟩:=q7;exact ⟨x7,σ7,H7,I7.Q5,r7,q7⟩))
end
theorem amb{K:az}{a:Addr}{xs:List V}{g:TG}{tb:TS}{D:Ends}{σ:St}{H:Hp}(Pv:Nat->St->Hp->Prop)(h0:Pv 0 σ H)(hl:∀i σ H,i<=xs.length->Pv i σ H->cY K H a xs)(hs:∀i x σ H,xs[i]? =some x->Pv i σ H->g x σ H λσ2 H2=>tb {D with nx:=Pv (i+1),ct:=Pv (i+1),bk:=D.nx} σ2 H2)(hd:∀σ H,Pv xs.length σ H->D.nx σ H):
  ∃W:Nat->Nat->St->Hp->Prop,(∃m,W 0 m σ H)/\∀i m σ H,W i m σ H->
   ((Itl K a).stop i H/\D.nx σ H)\/((Itl K a).go i H/\∃N:St->Hp->Prop,(∀σ' H',N σ' H'->∃m',m'<m/\W (i+1) m' σ' H')/\∀x H',(Itl K a).yld i H x H'->g x σ H' λσ2 H2=>tb {D with nx:=N,ct:=N,bk:=D.nx} σ2 H2):=(by apply aj:aa (by
 refine ⟨λi m σ H=>m=xs.length - i/\i<=xs.length/\Pv i σ H,⟨xs.length,by simp,eX _,h0⟩,?_⟩;rintro i m σ H ⟨rfl,hi,p⟩;have q:=hl i σ H hi p;by_cases hlt:i<xs.length
 ·refine .inr ⟨⟨xs,xs[i],q,by simp [hlt]⟩,Pv (i+1),λσ' H' p'=>⟨xs.length - (i+1),by omega,rfl,hlt,p'⟩,λx H' y=>?_⟩;obtain ⟨e,y⟩:=y;subst e;exact hs i x σ _ (y xs q) p
 ·have e:i=xs.length:=by omega
  subst e;exact .inl ⟨⟨xs,q,aU _⟩,hd σ H p⟩))
theorem anK{K:az}{a:Addr}{xs:List V}{g:TG}{tb:TS}{D:Ends}{σ:St}{H:Hp}(Pv:Nat->St->Hp->Prop)(h0:Pv 0 σ H)(hl:∀i σ H,i<=xs.length->Pv i σ H->Ol K H a xs)(hs:∀i x σ H,xs[i]? =some x->Pv i σ H->g x σ H λσ2 H2=>tb {D with nx:=Pv (i+1),ct:=Pv (i+1),bk:=D.nx} σ2 H2)(hd:∀σ H,Pv xs.length σ H->D.nx σ H):
  ∃W:Nat->Nat->St->Hp->Prop,(∃m,W 0 m σ H)/\∀i m σ H,W i m σ H->
   ((Itt K a).stop i H/\D.nx σ H)\/((Itt K a).go i H/\∃N:St->Hp->Prop,(∀σ' H',N σ' H'->∃m',m'<m/\W (i+1) m' σ' H')/\∀x H',(Itt K a).yld i H x H'->g x σ H' λσ2 H2=>tb {D with nx:=N,ct:=N,bk:=D.nx} σ2 H2):=(by apply aj:aa (by
 refine ⟨λi m σ H=>m=xs.length - i/\i<=xs.length/\Pv i σ H,⟨xs.length,by simp,eX _,h0⟩,?_⟩;rintro i m σ H ⟨rfl,hi,p⟩;have q:=hl i σ H hi p;by_cases hlt:i<xs.length
 ·refine .inr ⟨⟨xs,xs[i],q,by simp [hlt]⟩,Pv (i+1),λσ' H' p'=>⟨xs.length - (i+1),by omega,rfl,hlt,p'⟩,λx H' y=>?_⟩;obtain ⟨e,y⟩:=y;subst e;exact hs i x σ _ (y xs q) p
 ·have e:i=xs.length:=by omega
  subst e;exact .inl ⟨⟨xs,q,aU _⟩,hd σ H p⟩))
end L2
namespace L2
open PySem PySem.Spec PyProof.Rows
abbrev R2:=V->V->Hp->VK->Prop
def Pn(X:Cx)(f:Value->Value->Sem Value)(r:R2):Prop:=
 ∀(pins:List (Addr×Obj)) (s:Shared) (σ:St) (H:Hp) (x y:V) (v u:Value) (Q:VK),Inv X pins σ H s->RelV x v->RelV y u->r x y H Q->
  wpAny (model X.prog X.w) X.A (f v u) (EP X pins σ Q) X.xe s
def Cq(X:Cx)(f:Value)(r:List V->Hp->VK->Prop):Prop:=
 ∀(pins:List (Addr×Obj)) (s:Shared) (σ:St) (H:Hp) (xs:List V) (us:List Value) (Q:VK),Inv X pins σ H s->Vals xs us->r xs H Q->
  wpAny (model X.prog X.w) X.A (call f us) (EP X pins σ Q) X.xe s
def tOp(r:R2)(ta tb:TE):TE:=λσ H Q=>ta σ H λx H1=>tb σ H1 λy H2=>r x y H2 Q
def rI(C:Int->Int->Prop)(g:Int->Int->V):R2:=λx y H Q=>∃i j,x= .int i/\y= .int j/\C i j/\Q (g i j) H
def rI0(g:Int->Int->V):R2:=λx y H Q=>∃i j,x= .int i/\y= .int j/\Q (g i j) H
section
variable {X:Cx} {a b c:Expr} {ta tb tc:TE} {pos:Pos}
theorem apP(ha:PE X a ta)(hb:PE X b tb){pins:List (Addr×Obj)}{s:Shared}{σ:St}{H:Hp}{R:V->V->Hp->Prop}(I:Inv X pins σ H s)(h:ta σ H λx H1=>tb σ H1 λy H2=>R x y H2){Q:Value->Shared->Prop}{f:Value->Value->Sem Value}(hf:∀v u s2 x y H2,Inv X pins σ H2 s2->RelV x v->RelV y u->R x y H2->wpAny (model X.prog X.w) X.A (f v u) Q X.xe s2):
  wpAny (model X.prog X.w) X.A (eval a X.env) (λv s₁=>wpAny (model X.prog X.w) X.A (eval b X.env) (λu s₂=>wpAny (model X.prog X.w) X.A (f v u) Q X.xe s₂) X.xe s₁) X.xe s:=by
 refine jL (ha pins s σ H _ I h) λv s1 ⟨x,H1,I1,r1,q1⟩=>?_;refine jL (hb pins s1 σ H1 _ I1 q1) λu s2 ⟨y,H2,I2,r2,q2⟩=>?_;exact hf v u s2 x y H2 I2 r1 r2 q2
theorem fC{op:Operator}{r:R2}(ho:Pn X (binaryOp op) r)(ha:PE X a ta)(hb:PE X b tb):PE X (.BinOp a op b pos) (tOp r ta tb):=by
 intro pins s σ H Q I h;exact wpAny_BinOp (apP ha hb I h λv u s2 x y H2 I2 rx ry q=>ho pins s2 σ H2 x y v u Q I2 rx ry q)
theorem opI{f:Value->Value->Sem Value}{C:Int->Int->Prop}{g:Int->Int->Int}(rule:∀(i j:Int) (t u:Tok) (s:Shared) (Q:Value->Shared->Prop) (E:Value->Shared->Prop),C i j->Q (.int (g i j) s.toks) {s with toks:=s.toks+1}->wpAny (model X.prog X.w) X.A (f (.int i t) (.int j u)) Q E s):
  Pn X f (rI C λi j=>.int (g i j)):=by
 intro pins s σ H x y v u Q I rx ry h;obtain ⟨i,j,rfl,rfl,hc,q⟩:=h;obtain ⟨t,rfl⟩:=rx;obtain ⟨t',rfl⟩:=ry;exact rule i j t t' s _ _ hc ⟨.int (g i j),H,I.tok _,⟨_,rfl⟩,q⟩
theorem aqR{f:Value->Value->Sem Value}{g:Int->Int->Int}(rule:∀(i j:Int) (t u:Tok) (s:Shared) (Q:Value->Shared->Prop) (E:Value->Shared->Prop),Q (.int (g i j) s.toks) {s with toks:=s.toks+1}->wpAny (model X.prog X.w) X.A (f (.int i t) (.int j u)) Q E s):
  Pn X f (rI0 λi j=>.int (g i j)):=by
 intro pins s σ H x y v u Q I rx ry h;obtain ⟨i,j,rfl,rfl,q⟩:=h;obtain ⟨t,rfl⟩:=rx;obtain ⟨t',rfl⟩:=ry;exact rule i j t t' s _ _ ⟨.int (g i j),H,I.tok _,⟨_,rfl⟩,q⟩
theorem am6{f:Value->Value->Sem Value}{g:Int->Int->Bool}(rule:∀(i j:Int) (t u:Tok) (s:Shared) (Q:Value->Shared->Prop) (E:Value->Shared->Prop),Q (.bool (g i j)) s->wpAny (model X.prog X.w) X.A (f (.int i t) (.int j u)) Q E s):
  Pn X f (rI0 λi j=>.bl (g i j)):=by
 intro pins s σ H x y v u Q I rx ry h;obtain ⟨i,j,rfl,rfl,q⟩:=h;obtain ⟨t,rfl⟩:=rx;obtain ⟨t',rfl⟩:=ry;exact rule i j t t' s _ _ ⟨.bl (g i j),H,I,rfl,q⟩
def ap1(i j:Int):Prop:=(-(2^64)<i/\i<2^64)\/(-(2^64)<j/\j<2^64)
theorem ap1.ok{i j:Int}(h:ap1 i j):IntMulOk i j:=by
 rcases h with ⟨h1,h2⟩ | ⟨h1,h2⟩
 ·exact .of_left (intBits_le_64 h1 h2)
 ·exact .of_right (intBits_le_64 h1 h2)
theorem kW:Pn X (binaryOp .Add) (rI0 λi j=>.int (i+j)):=aqR λ_ _ _ _ _ _ _ q=>add_int q
theorem DY:Pn X (binaryOp .Sub) (rI0 λi j=>.int (i - j)):=aqR λ_ _ _ _ _ _ _ q=>sub_int q
theorem XJ:Pn X (binaryOp .Mult) (rI ap1 λi j=>.int (i*j)):=opI λ_ _ _ _ _ _ _ hc q=>mul_int q hc.ok
theorem alg:Pn X (binaryOp .Mod) (rI (λ_ j=>0<j) λi j=>.int (i%j)):=opI λi j _ _ _ _ _ hc q=>by
 have h1:(0:Int)<j:=hc;exact mod_int' (by omega) (by rw [Int.fmod_eq_emod_of_nonneg i (by omega)];exact q)
end
noncomputable def aqH:V->V->Bool
 |.non,.non=>true | .non,.int _=>true | .int _,.non=>true | .non,.bl _=>true | .bl _,.non=>true | .non,.str _=>true | .str _,.non=>true
 |.int _,.int _=>true | .bl _,.bl _=>true | .str _,.str _=>true | .byt _,.byt _=>true
 |.int _,.str _=>true | .str _,.int _=>true | .bl _,.str _=>true | .str _,.bl _=>true
 |_,_=>false
def rEq:R2:=λx y H Q=>aqH x y=true/\Q (.bl (decide (x=y))) H
def rNe:R2:=λx y H Q=>aqH x y=true/\Q (.bl (!decide (x=y))) H
theorem aif{i j:Int}:decide (V.int i=V.int j)=(i==j):=by
 rw [iy];simp
theorem amh{i j:Bool}:decide (V.bl i=V.bl j)=(i==j):=by
 rw [iy];simp
theorem aie{i j:Str}:decide (V.str i=V.str j)=(i==j):=by
 rw [iy];simp
theorem aih{i j:Array UInt8}:decide (V.byt i=V.byt j)=(i.toList==j.toList):=by
 rw [iy];cases i;cases j;simp
section
variable {X:Cx} {a b c:Expr} {ta tb tc:TE} {pos:Pos}
theorem ig{pins:List (Addr×Obj)}{σ:St}{H:Hp}{s:Shared}{Q:VK}{k k':Bool}(I:Inv X pins σ H s)(q:Q (.bl k) H)(e:k=k'):EP X pins σ Q (.bool k') s:=by
 subst e;exact ⟨.bl k,H,I,rfl,q⟩
theorem oN:Pn X (compareOp .Eq) rEq:=(by apply aj:aa (by
 intro pins s σ H x y v u Q I rx ry h;obtain ⟨hs,q⟩:=h;cases x with
 |non=>
  cases rx;cases y with
  |non=>cases ry;exact PySem.EqNone.eq_none_none (ig I q (by simp))
  |bl j=>cases ry;exact PySem.EqNone.eq_none_bool (ig I q (by simp))
  |int j=>obtain ⟨t',rfl⟩:=ry;exact PySem.EqNone.eq_none_int (ig I q (by simp))
  |str j=>obtain ⟨t',rfl⟩:=ry;exact PySem.EqNone.eq_none_str (ig I q (by simp))
  |_=>exact absurd (show false=true from hs) cu
 |bl i=>
  cases rx;cases y with
  |non=>cases ry;exact PySem.EqNone.eq_bool_none (ig I q (by simp))
  |bl j=>cases ry;exact eq_bool (ig I q amh)
  |str j=>obtain ⟨t',rfl⟩:=ry;exact PySem.EqMixed.eq_bool_str (ig I q (by simp))
  |_=>exact absurd (show false=true from hs) cu
 |int i=>
  obtain ⟨t,rfl⟩:=rx;cases y with
  |non=>cases ry;exact PySem.EqNone.eq_int_none (ig I q (by simp))
  |int j=>obtain ⟨t',rfl⟩:=ry;exact eq_int (ig I q aif)
  |str j=>obtain ⟨t',rfl⟩:=ry;exact PySem.EqMixed.eq_int_str (ig I q (by simp))
  |_=>exact absurd (show false=true from hs) cu
 |str i=>
  obtain ⟨t,rfl⟩:=rx;cases y with
  |non=>cases ry;exact PySem.EqNone.eq_str_none (ig I q (by simp))
  |bl j=>cases ry;exact PySem.EqMixed.eq_str_bool (ig I q (by simp))
  |int j=>obtain ⟨t',rfl⟩:=ry;exact PySem.EqMixed.eq_str_int (ig I q (by simp))
  |str j=>obtain ⟨t',rfl⟩:=ry;exact eq_str (ig I q aie)
  |_=>exact absurd (show false=true from hs) cu
 |byt i=>
  obtain ⟨t,rfl⟩:=rx;cases y with
  |byt j=>obtain ⟨t',rfl⟩:=ry;exact PySem.W.eq_bytes (ig I q aih)
  |_=>exact absurd (show false=true from hs) cu
 |_=>cases y<;>exact absurd (show false=true from hs) cu))
theorem ahM:Pn X (compareOp .NotEq) rNe:=(by apply aj:aa (by
 intro pins s σ H x y v u Q I rx ry h;obtain ⟨hs,q⟩:=h;cases x with
 |non=>
  cases rx;cases y with
  |non=>cases ry;exact PySem.EqNone.ne_none_none (ig I q (by simp))
  |bl j=>cases ry;exact PySem.EqNone.ne_none_bool (ig I q (by simp))
  |int j=>obtain ⟨t',rfl⟩:=ry;exact PySem.EqNone.ne_none_int (ig I q (by simp))
  |str j=>obtain ⟨t',rfl⟩:=ry;exact PySem.EqNone.ne_none_str (ig I q (by simp))
  |_=>exact absurd (show false=true from hs) cu
 |bl i=>
  cases rx;cases y with
  |non=>cases ry;exact PySem.EqNone.ne_bool_none (ig I q (by simp))
  |bl j=>cases ry;exact ne_bool (ig I q (congrArg not amh))
  |str j=>obtain ⟨t',rfl⟩:=ry;exact PySem.EqMixed.ne_bool_str (ig I q (by simp))
  |_=>exact absurd (show false=true from hs) cu
 |int i=>
  obtain ⟨t,rfl⟩:=rx;cases y with
  |non=>cases ry;exact PySem.EqNone.ne_int_none (ig I q (by simp))
  |int j=>obtain ⟨t',rfl⟩:=ry;exact ne_int (ig I q (congrArg not aif))
  |str j=>obtain ⟨t',rfl⟩:=ry;exact PySem.EqMixed.ne_int_str (ig I q (by simp))
  |_=>exact absurd (show false=true from hs) cu
 |str i=>
  obtain ⟨t,rfl⟩:=rx;cases y with
  |non=>cases ry;exact PySem.EqNone.ne_str_none (ig I q (by simp))
  |bl j=>cases ry;exact PySem.EqMixed.ne_str_bool (ig I q (by simp))
  |int j=>obtain ⟨t',rfl⟩:=ry;exact PySem.EqMixed.ne_str_int (ig I q (by simp))
  |str j=>obtain ⟨t',rfl⟩:=ry;exact ne_str (ig I q (congrArg not aie))
  |_=>exact absurd (show false=true from hs) cu
 |byt i=>
  obtain ⟨t,rfl⟩:=rx;cases y with
  |byt j=>obtain ⟨t',rfl⟩:=ry;exact PySem.W.ne_bytes (ig I q (congrArg not aih))
  |_=>exact absurd (show false=true from hs) cu
 |_=>cases y<;>exact absurd (show false=true from hs) cu))
theorem Kv:Pn X (compareOp .Lt) (rI0 λi j=>.bl (decide (i<j))):=am6 λ_ _ _ _ _ _ _ q=>lt_int q
theorem ni:Pn X (compareOp .LtE) (rI0 λi j=>.bl (decide (i<=j))):=am6 λ_ _ _ _ _ _ _ q=>le_int q
theorem O2:Pn X (compareOp .Gt) (rI0 λi j=>.bl (decide (j<i))):=am6 λ_ _ _ _ _ _ _ q=>gt_int q
theorem ahN:Pn X (compareOp .GtE) (rI0 λi j=>.bl (decide (j<=i))):=am6 λ_ _ _ _ _ _ _ q=>ge_int q
theorem yG:Pn X (compareOp .Is) (λx y H Q=>y= .non/\Q (.bl (decide (x= .non))) H):=by
 intro pins s σ H x y v u Q I rx ry h;obtain ⟨rfl,q⟩:=h;cases ry;refine is_none_gen (ig I q ?_);cases x<;>first
  |(cases rx;rfl)
  |(obtain ⟨t,rfl⟩:=rx;rfl)
theorem Ro:Pn X (compareOp .IsNot) (λx y H Q=>y= .non/\Q (.bl (!decide (x= .non))) H):=by
 intro pins s σ H x y v u Q I rx ry h;obtain ⟨rfl,q⟩:=h;cases ry;refine isnot_none_gen (ig I q ?_);cases x<;>first
  |(cases rx;rfl)
  |(obtain ⟨t,rfl⟩:=rx;rfl)
theorem cP(b:Expr){op:CmpOp}(h:op≠ .In:=by decide)(h2:op≠ .NotIn:=by decide):behindInMarks op b=false:=by
 have e1:(op==CmpOp.In)=false:=by cases op<;>first | rfl | exact absurd rfl h
 have e2:(op==CmpOp.NotIn)=false:=by cases op<;>first | rfl | exact absurd rfl h2
 cases b<;>simp [behindInMarks,e1,e2]
theorem nZ{op:CmpOp}{r:R2}(ho:Pn X (compareOp op) r)(ha:PE X a ta)(hb:PE X b tb)(hm:behindInMarks op b=false):PE X (.Compare a [op] [b] pos) (tOp r ta tb):=by
 intro pins s σ H Q I h;exact wpAny_Compare1 (apP ha hb I h λv u s2 x y H2 I2 rx ry q=>ho pins s2 σ H2 x y v u Q I2 rx ry q) hm
def an1(t:TE):TT:=λσ H Q=>t σ H λx H'=>∃k,x= .bl k/\Q k H'
theorem bZ{op:CmpOp}{r:R2}(ho:Pn X (compareOp op) r)(ha:PE X a ta)(hb:PE X b tb)(hm:behindInMarks op b=false):PT X (.Compare a [op] [b] pos) (an1 (tOp r ta tb)):=(by apply aj:aa (by
 intro pins s σ H Q I h;refine wpAny_isTrue_Compare1 (jL (ha pins s σ H _ I h) λv s1 ⟨x,H1,I1,r1,q1⟩=>jL (hb pins s1 σ H1 _ I1 q1) λu s2 ⟨y,H2,I2,r2,q2⟩=>
  jL (ho pins s2 σ H2 x y v u _ I2 r1 r2 q2) λc s3 ⟨z,H3,I3,r3,k,e,q3⟩=>?_) hm
 subst e;cases r3;exact wpAny_truthy_bool ⟨H3,I3,q3⟩))
def akV(r r':R2)(ta tb tc:TE):TE:=λσ H Q=>ta σ H λx H1=>tb σ H1 λy H2=>r x y H2 λz H3=>∃k,z= .bl k/\
 (if k=true then tc σ H3 λw' H4=>r' y w' H4 Q else Q (.bl false) H3)
theorem aed{op op':CmpOp}{r r':R2}(ho:Pn X (compareOp op) r)(ho':Pn X (compareOp op') r')(ha:PE X a ta)(hb:PE X b tb)(hc:PE X c tc)(hm:lastMarks [op,op'] [b,c]=false:=by with_unfolding_all rfl):PE X (.Compare a [op,op'] [b,c] pos) (akV r r' ta tb tc):=(by apply aj:aa (by
 intro pins s σ H Q I h;refine Compare_chain (jL (ha pins s σ H _ I h) λv s1 ⟨x,H1,I1,r1,q1⟩=>chain_link (jL (hb pins s1 σ H1 _ I1 q1) λu s2 ⟨y,H2,I2,r2,q2⟩=>
  jL (ho pins s2 σ H2 x y v u _ I2 r1 r2 q2) λd s3 ⟨z,H3,I3,r3,k,e,q3⟩=>?_)) hm
 subst e;cases r3;refine wpAny_truthy_bool ?_;cases k with
 |false=>exact ite_ff ⟨.bl false,H3,I3,rfl,q3⟩
 |true=>exact ite_tt (chain_last (jL (hc pins s3 σ H3 _ I3 q3) λw' s4 ⟨z',H4,I4,r4,q4⟩=>ho' pins s4 σ H4 y z' u w' Q I4 r2 r4 q4))))
theorem qd{op op':CmpOp}{r r':R2}(ho:Pn X (compareOp op) r)(ho':Pn X (compareOp op') r')(ha:PE X a ta)(hb:PE X b tb)(hc:PE X c tc)(hm:lastMarks [op,op'] [b,c]=false:=by with_unfolding_all rfl):PT X (.Compare a [op,op'] [b,c] pos) (an1 (akV r r' ta tb tc)):=(by apply aj:aa (by
 intro pins s σ H Q I h;refine isTrue_chain (jL (ha pins s σ H _ I h) λv s1 ⟨x,H1,I1,r1,q1⟩=>test_link (jL (hb pins s1 σ H1 _ I1 q1) λu s2 ⟨y,H2,I2,r2,q2⟩=>
  jL (ho pins s2 σ H2 x y v u _ I2 r1 r2 q2) λd s3 ⟨z,H3,I3,r3,k,e,q3⟩=>?_)) hm
 subst e;cases r3;refine wpAny_truthy_bool ?_;cases k with
 |false=>
  obtain ⟨k',e',q'⟩:=q3;cases e';exact ite_ff ⟨H3,I3,q'⟩
 |true=>
  refine ite_tt (test_last (jL (hc pins s3 σ H3 _ I3 q3) λw' s4 ⟨z',H4,I4,r4,q4⟩=>jL (ho' pins s4 σ H4 y z' u w' _ I4 r2 r4 q4) λd' s5 ⟨z2,H5,I5,r5,k2,e2,q5⟩=>?_));subst e2;cases r5;exact wpAny_truthy_bool ⟨H5,I5,q5⟩))
theorem Yd:(sizeLine:Nat)<2^63:=by rw [sizeLine_eq];decide
theorem Hs:Pn X (binaryOp .Add) (λx y H Q=>∃i j,x= .str i/\y= .str j/\i.length+j.length<=sizeLine/\Q (.str (i++j)) H):=by
 intro pins s σ H x y v u Q I rx ry h;obtain ⟨i,j,rfl,rfl,hz,q⟩:=h;obtain ⟨t,rfl⟩:=rx;obtain ⟨t',rfl⟩:=ry;exact add_str (λt' tk=>⟨.str (i++j),H,I.tok _,⟨_,rfl⟩,q⟩) hz
theorem vals1{x:V}{us:List Value}(r:Vals [x] us):∃u,us=[u]/\RelV x u:=by
 cases r with
 |cons r1 r2=>cases r2;exact ⟨_,rfl,r1⟩
theorem vals2{x y:V}{us:List Value}(r:Vals [x,y] us):∃u w',us=[u,w']/\RelV x u/\RelV y w':=by
 cases r with
 |cons r1 r2=>
  cases r2 with
  |cons r3 r4=>cases r4;exact ⟨_,_,rfl,r1,r3⟩
theorem abi(hc:X.calm=true):Cq X (.builtin "max") (λxs H Q=>∃i j,xs=[.int i,.int j]/\Q (.int (if j>i then j else i)) H):=by
 intro pins s σ H xs us Q I r h;obtain ⟨i,j,rfl,q⟩:=h;obtain ⟨u,w',rfl,⟨t,rfl⟩,⟨t',rfl⟩⟩:=vals2 r;refine max_two_ints (I.ok.hd hc) λh' tk k=>⟨_,H,I.kept k,?_,q⟩;by_cases hj:j>i
 ·rw [if_pos hj,if_pos hj];exact ⟨_,rfl⟩
 ·rw [if_neg hj,if_neg hj];exact ⟨_,rfl⟩
theorem ajW(hc:X.calm=true):Cq X (.builtin "min") (λxs H Q=>∃i j,xs=[.int i,.int j]/\Q (.int (if j<i then j else i)) H):=by
 intro pins s σ H xs us Q I r h;obtain ⟨i,j,rfl,q⟩:=h;obtain ⟨u,w',rfl,⟨t,rfl⟩,⟨t',rfl⟩⟩:=vals2 r;refine min_two_ints (I.ok.hd hc) λh' tk k=>⟨_,H,I.kept k,?_,q⟩;by_cases hj:j<i
 ·rw [if_pos hj,if_pos hj];exact ⟨_,rfl⟩
 ·rw [if_neg hj,if_neg hj];exact ⟨_,rfl⟩
theorem acW:Cq X (.type "str") (λxs H Q=>∃i,xs=[.int i]/\i.natAbs.log2<1920/\Q (.str (toString i)) H):=by
 intro pins s σ H xs us Q I r h;obtain ⟨i,rfl,hz,q⟩:=h;obtain ⟨u,rfl,t,rfl⟩:=vals1 r;exact PySem.P.str_of_int hz ⟨.str _,H,I.tok _,⟨_,rfl⟩,q⟩
theorem Y6:Cq X (.builtin "ord") (λxs H Q=>∃x,xs=[.str x]/\x.length=1/\Q (.int (x.cps.getD 0 0:Nat)) H):=by
 intro pins s σ H xs us Q I r h;obtain ⟨x,rfl,hz,q⟩:=h;obtain ⟨u,rfl,t,rfl⟩:=vals1 r;exact ord_of_one hz ⟨.int _,H,I.tok _,⟨_,rfl⟩,q⟩
end
end L2
namespace L2
open PySem PySem.Spec PyProof.Rows
structure agX(h:Heap)(x dx C:Addr)(mA:Str->Option Value):Prop where
 obj:h.get? x=some (mL C dx)
 ns:h.Ns1 dx mA
 ne:dx≠x
theorem aji{h:Heap}{dx:Addr}{mA:Str->Option Value}(n:h.Ns1 dx mA):∃od,h.get? dx=some od/\∀name,QM name od=some (mA name):=(by apply aj:aa (by
 obtain ⟨o,es,ep,ho,hd,hk,_,hm⟩:=n;refine ⟨o,ho,λname=>?_⟩;have e:=hm name;unfold nsFind findBy at e;rw [<-Array.find?_toList] at e;unfold QM;rw [hd];dsimp only;split
 ·rename_i y q;rw [q] at e;exact congrArg some e
 ·rename_i q;rw [q] at e;have a:es.toList.any (·.refKey)=false:=by
   rw [List.any_eq_false];intro y hy;obtain ⟨z,t,hkey⟩:=hk y (Array.mem_toList_iff.mp hy);simp [DictEntry.refKey,hkey]
  have a':¬es.toList.any (·.refKey)=true:=by rw [a];exact cu
  rw [if_neg a'];exact congrArg some e))
theorem agX.look{h:Heap}{x dx C:Addr}{mA:Str->Option Value}(I:agX h x dx C mA):∃od,PySem.W.InstAt h x (mL C dx) C (some od)/\∀name,QM name od=some (mA name):=
 let ⟨od,ho,hl⟩:=aji I.ns
 ⟨od,⟨I.obj,rfl,rfl,ho⟩,hl⟩
section
variable {prog:Program} {w:World} {A:Around} {E:Value->Shared->Prop} {s:Shared} {K:az} {x dx C f:Addr} {mA:Str->Option Value} {name:Str} {v:Value}
theorem get_map{expr:Bool}{Q:Value->Shared->Prop}(X:K.In s.heap)(I:agX s.heap x dx C mA)(hg:yZ K C name=true)(hh:Jf K C=true)(ha:ik K (.ref C) name=some none)(hv:mA name=some v)(hv':PySem.W.handedIn v=true)(h:Q v {s with toks:=s.toks+1}):
  wpAny (model prog w) A (getAttr (.ref x) name expr) Q E s:=by
 obtain ⟨od,J,hl⟩:=I.look;exact PySem.W.get_value X J (SX hg).1 (PySem.W.findObj_own hh ha rfl (by rw [hl,hv])) hv' h
theorem alW{pl:Sem Bool}{Q:Value×List Value->Shared->Prop}(X:K.In s.heap)(I:agX s.heap x dx C mA)(hg:yZ K C name=true)(hf:ik K (.ref C) name=some (some (.ref f)))(ht:Oa K (.ref f)=true)(hv:mA name=none)(h:Q (.ref f,[.ref x]) s):
  wpAny (model prog w) A (getMethod (.ref x) name pl) Q E s:=by
 obtain ⟨od,J,hl⟩:=I.look;exact PySem.W.method_fn X J (SX hg).1 (SX hg).2 hf (beq_iff_eq.mp ht) (by show (QM name od).map (·.isSome)=some false;rw [hl,hv];rfl) h
theorem amS{ns:List Str}{Q:Unit->Shared->Prop}(X:K.In s.heap)(I:agX s.heap x dx C mA)(hs:ik K (.ref C) "__setattr__"=some (some (.builtin "object.__setattr__")))(hp:Wn K C=true)(ht:abv K C name=some none)(hh:Jf K C=true)(hw:Wm mA ns)(hsz:ns.length<=sizeLine)(h:∀h',agX h' x dx C (λy=>if y=name then some v else mA y)->jj dx s.heap h'->Q () {s with heap:=h',toks:=s.toks+2}):
  wpAny (model prog w) A (setAttr (.ref x) name v) Q E s:=(by apply aj:aa (by
 obtain ⟨od,J,hl⟩:=I.look;refine PySem.W.set_plain X J hs (PySem.W.osa_open (s:={s with toks:=s.toks+1}) (r:=none) X J hp ht λb=>?_);obtain ⟨cd,hc,hd'⟩:=PySem.W.any_some hh;have hx:s.heap.get? x=some ⟨.ref C,some dx,.plain,#[]⟩:=I.obj;refine wpAny_bind (wpAny_pure (wpAny_bind (wpAny_bind (wpAny_loadPart hx (wpAny_bind (PySem.W.Looks.here (s:={s with toks:=s.toks+1}) (PySem.W.looks_clsIn X hc) ?_))))));rw [hd'];refine wpAny_pure (a:=some dx) (wpAny_bind (wpAny_pure (wpAny_bind ?_)));refine wpAny_nsSet1 (s:={s with toks:=s.toks+1}) I.ns λh' hn2 hs2=>?_;obtain ⟨oD,esD,epD,hoD,hdD,hcD⟩:=hn2.count (Wm.cons name v hw);refine wpAny_bind (wpAny_lookBehind hoD (by rw [hdD];exact pastItsLine_dict (aY hcD (by rw [aH];omega))) ?_);exact wpAny_pure (h _ ⟨(hs2.2 _ (cO I.ne)).trans I.obj,hn2,I.ne⟩ hs2)))
theorem aly{R:Result->Shared->Prop}{vs:List Value}{kw:List (Str×Value)}(X:K.In s.heap)(hm:abw K C=true)(hi:ik K (.ref C) "__init__"=some (some (.ref f)))(hf:PySem.W.typeIn K (.ref f)=some (.type "function"))(h:codeAny (model prog w) (A.under (.builtin "type.__call__" ⟨.ref C::vs,kw⟩)) (.call (.ref f) ⟨.ref (s.heap.objs.size+1)::vs,kw⟩) (PySem.W.InitBack (s.heap.objs.size+1) R)
   {s with heap:=(s.heap.push jC).push (mL C s.heap.objs.size)}):
  codeAny (model prog w) A (.call (.ref C) ⟨vs,kw⟩) R s:=by
 obtain ⟨hh,g,d,t,os⟩:=s;exact PySem.W.make_core (PySem.W.makes_of X hm) (PySem.W.looks_findIn X hi) (λself=>PySem.W.bind_fn X self hf) (.inl rfl) h
end
noncomputable def dU (f:Str) (v:V):List (Str×V)->List (Str×V)
 |[]=>[(f,v)]
 |(g,x)::r=>if g=f then (g,v)::r else (g,x)::dU f v r
theorem Vf(f g:Str)(v:V):∀fs:List (Str×V),(dU f v fs).lookup g=if g=f then some v else fs.lookup g
 |[]=>by
  show wk g [(f,v)]=_;by_cases h:g=f
  ·have hb:(g==f)=true:=beq_iff_eq.mpr h;simp only [wk,hb,if_pos h]
  ·have hb:(g==f)=false:=beq_eq_false_iff_ne.mpr h;simp only [wk,hb,if_neg h]
 |(k,x)::r=>by
  have ih:=Vf f g v r;rw [show dU f v ((k,x)::r)=(if k=f then (k,v)::r else (k,x)::dU f v r) from rfl];by_cases hk:k=f
  ·rw [if_pos hk];by_cases h:g=k
   ·have hb:(g==k)=true:=beq_iff_eq.mpr h;simp only [wk,hb,if_pos (h.trans hk)]
   ·have hb:(g==k)=false:=beq_eq_false_iff_ne.mpr h;simp only [wk,hb,if_neg (λe:g=f=>h (e.trans hk.symm))]
  ·rw [if_neg hk];by_cases h:g=k
   ·have hb:(g==k)=true:=beq_iff_eq.mpr h;simp only [wk,hb,if_neg (λe:g=f=>hk (h.symm.trans e))]
   ·have hb:(g==k)=false:=beq_eq_false_iff_ne.mpr h;simp only [wk,hb];exact ih
theorem T7(f:Str)(v:V):∀fs:List (Str×V),f∈(dU f v fs).map (·.1)/\∀g,g∈fs.map (·.1)->g∈(dU f v fs).map (·.1)
 |[]=>⟨by simp [dU],λg h=>by simp at h⟩
 |(k,x)::r=>by
  obtain ⟨i1,i2⟩:=T7 f v r;rw [show dU f v ((k,x)::r)=(if k=f then (k,v)::r else (k,x)::dU f v r) from rfl];by_cases hk:k=f
  ·rw [if_pos hk];subst hk;exact ⟨by simp,λg h=>by simpa using h⟩
  ·rw [if_neg hk];refine ⟨?_,λg h=>?_⟩
   ·rw [bu];exact aV _ i1
   ·rw [bu] at h⊢;rcases bc.mp h with e | e
    ·exact bc.mpr (.inl e)
    ·exact aV _ (i2 g e)
theorem Vg(f:Str)(v:V):∀fs:List (Str×V),(dU f v fs).length<=fs.length+1
 |[]=>by simp [dU]
 |(k,x)::r=>by
  have ih:=Vg f v r;rw [show dU f v ((k,x)::r)=(if k=f then (k,v)::r else (k,x)::dU f v r) from rfl];by_cases hk:k=f
  ·rw [if_pos hk,aH,aH];omega
  ·rw [if_neg hk,aH,aH];omega
theorem Mh.some_of{v:V}{o:Option Value}(r:Mh (some v) o):∃u,o=some u/\RelV v u:=by
 cases o with
 |none=>exact (show False from r).elim
 |some u=>exact ⟨u,rfl,r⟩
theorem Mh.none_of{o:Option Value}(r:Mh none o):o=none:=by
 cases o with
 |none=>rfl
 |some u=>exact (show False from r).elim
theorem ajA{v:V}{u:Value}(r:RelV v u):PySem.W.handedIn u=true:=(by apply aj:aa (by
 cases v with
 |non=>cases (show u=Ey from r);rfl
 |bl b=>cases (show u=vZ b from r);rfl
 |int i=>obtain ⟨t,e⟩:=(show ∃t,u=JR i t from r);cases e;rfl
 |str x=>obtain ⟨t,e⟩:=(show ∃t,u=ag7 x t from r);cases e;rfl
 |byt b=>obtain ⟨t,e⟩:=(show ∃t,u=Value.bytes b t from r);cases e;rfl
 |flt b=>obtain ⟨t,e⟩:=(show ∃t,u=Value.float b t from r);cases e;rfl
 |ref a=>cases (show u=dX a from r);rfl
 |ty n=>cases (show u=iM n from r);rfl))
section
variable {P:Program} {w:World} {H H':Hp} {h h':Heap} {a C dx:Addr} {fs fs':List (Str×V)}
theorem acG(hok:JQ P w H h)(e:H a=some (.ins C dx fs)):∃mA,agX h a dx C mA/\(∀f,Mh (fs.lookup f) (mA f))/\Wm mA (fs.map (·.1))/\fs.length<=1000/\H dx=some (.own a):=by
 obtain ⟨d,z,ne,ob,mA,n,r,q⟩:=(show lE P w H h a (.ins C dx fs) from hok a _ e);exact ⟨mA,⟨ob,n,ne⟩,r,q,z,d⟩
end
structure Cls(K:az)(C:Addr):Prop where
 pg:yZ K C Str.empty=true
 hd:Jf K C=true
 po:Wn K C=true
 sa:ik K (.ref C) "__setattr__"=some (some (.builtin "object.__setattr__"))
theorem Cls.get{K:az}{C:Addr}(c:Cls K C)(f:Str):yZ K C f=true:=c.pg
def iK(K:az)(C:Addr)(f:Str):Prop:=ik K (.ref C) f=some none
theorem iK.taker{K:az}{C:Addr}{f:Str}(n:iK K C f):abv K C f=some none:=by
 unfold abv;rw [show ik K (.ref C) f=some none from n];rfl
structure Meth(K:az)(C:Addr)(m:Str)(f:Addr):Prop where
 at_:ik K (.ref C) m=some (some (.ref f))
 fn:Oa K (.ref f)=true
 kp:lW K (.ref f)=true
section
variable {X:Cx} {pins:List (Addr×Obj)} {σ:St} {H:Hp} {s:Shared} {a C dx:Addr} {fs:List (Str×V)} {f:Str} {v:V} {A:Around} {E:Value->Shared->Prop}
theorem Yy{b:Bool}{Q:Value->Shared->Prop}(I:Inv X pins σ H s)(e:H a=some (.ins C dx fs))(c:Cls X.K C)(n:iK X.K C f)(l:fs.lookup f=some v)(h:∀u s',Inv X pins σ H s'->RelV v u->Q u s'):wpAny (model X.prog X.w) A (getAttr (.ref a) f b) Q E s:=by
 obtain ⟨mA,O,r,_,_,_⟩:=acG I.hok e;obtain ⟨u,hu,ru⟩:=Mh.some_of (v:=v) (o:=mA f) (by rw [<-l];exact r f);exact get_map I.kIn O (c.get f) c.hd n hu (ajA ru) (h u _ (I.tok _) ru)
theorem Ql{m:Str}{g:Addr}{pl:Sem Bool}{Q:Value×List Value->Shared->Prop}(I:Inv X pins σ H s)(e:H a=some (.ins C dx fs))(c:Cls X.K C)(k:Meth X.K C m g)(l:fs.lookup m=none)(h:Q (.ref g,[.ref a]) s):wpAny (model X.prog X.w) A (getMethod (.ref a) m pl) Q E s:=by
 obtain ⟨mA,O,r,_,_,_⟩:=acG I.hok e;have hn:mA m=none:=Mh.none_of (by rw [<-l];exact r m);exact alW I.kIn O (c.get m) k.at_ k.fn hn h
theorem Xd{y:V}{u:Value}{Q:Unit->Shared->Prop}(I:Inv X pins σ H s)(e:H a=some (.ins C dx fs))(c:Cls X.K C)(n:iK X.K C f)(hl:fs.length<1000)(ry:RelV y u)(h:∀s',Inv X pins σ (upd H a (.ins C dx (dU f y fs))) s'->Q () s'):wpAny (model X.prog X.w) A (setAttr (.ref a) f u) Q E s:=(by apply aj:aa (by
 obtain ⟨mA,O,r,wi,_,ho⟩:=acG I.hok e;have hz:(fs.map (·.1)).length<=sizeLine:=by rw [ao,sizeLine_eq];omega
 refine amS I.kIn O c.sa c.po n.taker c.hd wi hz λh' O' sb=>h _ ?_;have hd:∃o,h'.get? dx=some o:=let ⟨o,_,_,e',_⟩:=O'.ns;⟨o,e'⟩;refine I.write (x:=a) (e:=dx) (by rw [e];exact N7) (.inr ho) (λb q hb z=>(sb.2 b hb).trans z) hd ?_;refine ⟨by rw [aF O.ne];exact ho,?_,O.ne,O'.obj,_,O'.ns,λg=>?_,λg hg=>?_⟩
 ·have:=Vg f y fs;omega
 ·show Mh ((dU f y fs).lookup g) (if g=f then some u else mA g);rw [Vf];by_cases q:g=f
  ·rw [if_pos q,if_pos q];exact ry
  ·rw [if_neg q,if_neg q];exact r g
 ·by_cases q:g=f
  ·rw [q];exact (T7 f y fs).1
  ·refine (T7 f y fs).2 g (wi g λz=>hg ?_);show (if g=f then some u else mA g)=none;rw [if_neg q];exact z))
theorem Inv.made(I:Inv X pins σ H s):Inv X pins σ (upd (upd H s.heap.objs.size (.own (s.heap.objs.size+1))) (s.heap.objs.size+1) (.ins C s.heap.objs.size []))
  {s with heap:=(s.heap.push jC).push (mL C s.heap.objs.size)}:=(by apply aj:aa (by
 have e1:(s.heap.push jC).get? s.heap.objs.size=some jC:=aR s.heap rfl;have e2:((s.heap.push jC).push (mL C s.heap.objs.size)).get? (s.heap.objs.size+1)=some (mL C s.heap.objs.size):=by
  have:=aR (s.heap.push jC) (o:=mL C s.heap.objs.size) rfl
  rwa [cQ] at this
 have e3:(s.heap.push jC).Ns s.heap.objs.size (λ_=>none):=⟨jC,#[],_,e1,rfl,(λe he=>absurd he (by simp)),λ_=>rfl⟩;have I1:=I.laid (a:=s.heap.objs.size) (o:=.own (s.heap.objs.size+1)) (h':=s.heap.push jC) (t':=s.toks) (λb u q=>aA _ q) (aU _) ⟨_,e1⟩;refine I1.laid (a:=s.heap.objs.size+1) (o:=.ins C s.heap.objs.size []) (t':=s.toks) (λb u q=>aA _ q) (Dy (cQ _ _)) ?_;have ne:s.heap.objs.size≠s.heap.objs.size+1:=b8 (jY _);refine ⟨by rw [aF ne,aD],eX _,ne,e2,λ_=>none,(Heap.Ns1.of_empty e3).at λo q=>aA _ q,λ_=>N7,λy hy=>absurd rfl hy⟩))
theorem anP{prog:Program}{w:World}{env:Env}{e:Expr}{f:Str}{pos:Pos}{s:Shared}{Q:Value->Shared->Prop}(hb:attributeBase e f env (eval e env)=eval e env)(h:wpAny (model prog w) A (eval e env) (λo s₁=>wpAny (model prog w) A (getAttr o f true) Q E s₁) E s):wpAny (model prog w) A (eval (.Attribute e f pos) env) Q E s:=
 Attribute_any_ h (by rw [arm_eval_Attribute,hb])
end
inductive ar3(K:az)(f:Str)(a:Addr)(H:Hp)(q:V->Prop):Prop
 |mk (C dx:Addr) (fs:List (Str×V)) (_:H a=some (.ins C dx fs)) (_:Cls K C) (_:iK K C f) (v:V) (_:fs.lookup f=some v) (_:q v)
inductive wB(K:az)(f:Str)(a:Addr)(H:Hp)(q:Addr->Addr->List (Str×V)->Prop):Prop
 |mk (C dx:Addr) (fs:List (Str×V)) (_:H a=some (.ins C dx fs)) (_:Cls K C) (_:iK K C f) (_:fs.length<1000) (_:q C dx fs)
inductive MethAt(C:Addr)(m:Str)(a:Addr)(H:Hp)(r:Prop):Prop
 |mk (dx:Addr) (fs:List (Str×V)) (_:H a=some (.ins C dx fs)) (_:fs.lookup m=none) (_:r)
def aqC(K:az)(ta:TE)(f:Str):TE:=λσ H Q=>ta σ H λx H1=>∃a,x= .ref a/\ar3 K f a H1 λv=>Q v H1
def as3(K:az)(ta tv:TE)(f:Str):TS:=λD σ H=>tv σ H λy H1=>ta σ H1 λx H2=>∃a,x= .ref a/\wB K f a H2 λC dx fs=>
 D.nx σ (upd H2 a (.ins C dx (dU f y fs)))
def arZ(X:Cx)(op:Operator)(rd:V->V->Hp->VK->Prop):Prop:=
 ∀(pins:List (Addr×Obj)) (s:Shared) (σ:St) (H:Hp) (x y:V) (u v:Value) (Q:VK),Inv X pins σ H s->RelV x u->RelV y v->rd x y H Q->wpAny (model X.prog X.w) X.A (inplaceOp op u v) (EP X pins σ Q) X.xe s
def amV(K:az)(ta tv:TE)(rd:V->V->Hp->VK->Prop)(f:Str):TS:=λD σ H=>ta σ H λx H1=>∃a C dx fs v,x= .ref a/\H1 a=some (.ins C dx fs)/\Cls K C/\iK K C f/\fs.lookup f=some v/\
 tv σ H1 λy H2=>rd v y H2 λz H3=>∃dx' fs',H3 a=some (.ins C dx' fs')/\fs'.length<1000/\D.nx σ (upd H3 a (.ins C dx' (dU f z fs')))
section
variable {X:Cx} {o e value:Expr} {f:Str} {pos pos' tpos:Pos} {ta tv:TE}
theorem aO(he:PE X e ta)(hb:attributeBase e f X.env (eval e X.env)=eval e X.env):PE X (.Attribute e f pos) (aqC X.K ta f):=by
 intro pins s σ H Q I h;refine anP hb (jL (he pins s σ H _ I h) λu s1 ⟨x,H1,I1,rx,a,ex,C,dx,fs,ea,c,n,v,l,q⟩=>?_);subst ex;obtain rfl:u=dX a:=rx;exact Yy I1 ea c n l λu' s2 I2 ru=>⟨v,H1,I2,ru,q⟩
theorem gB(ha:PE X o ta)(hv:PE X value tv)(hs:swapsWith value (some (.Attribute o f pos')) pos.line X.env=pure false):PS X (.Assign [.Attribute o f pos'] value pos) (as3 X.K ta tv f):=(by apply aj:aa (by
 intro pins s σ H D I h;refine plainObj_wpAny_Assign_Attribute (jL (hv pins s σ H _ I h) λu s1 ⟨y,H1,I1,ry,q⟩=>jL (ha pins s1 σ H1 _ I1 q) λov s2 ⟨x,H2,I2,rx,a,ex,C,dx,fs,ea,c,n,l,q2⟩=>?_) hs;subst ex;obtain rfl:ov=dX a:=rx;exact Xd I2 ea c n l ry λs3 I3=>⟨σ,_,I3,q2⟩))
theorem ai0{op:Operator}{rd:V->V->Hp->VK->Prop}(ha:PE X o ta)(hv:PE X value tv)(hop:arZ X op rd):PS X (.AugAssign (.Attribute o f tpos) op value pos) (amV X.K ta tv rd f):=(by apply aj:aa (by
 intro pins s σ H D I h;refine wpAny_AugAssign_AttributeAny (jL (ha pins s σ H _ I h) λov s1 ⟨x,H1,I1,rx,a,C,dx,fs,v,ex,ea,c,n,l,q⟩=>?_);subst ex;obtain rfl:ov=dX a:=rx;refine Yy I1 ea c n l λu s2 I2 ru=>jL (hv pins s2 σ H1 _ I2 q) λw3 s3 ⟨y,H2,I3,ry,q3⟩=>jL (hop pins s3 σ H2 v y u w3 _ I3 ru ry q3) λw4 s4 ⟨z,H3,I4,rz,dx',fs',ea',l',q4⟩=>?_;exact Xd I4 ea' c n l' rz λs5 I5=>⟨σ,_,I5,q4⟩))
def atp:V->V->Hp->VK->Prop:=λx y H Q=>∃i j,x= .int i/\y= .int j/\Q (.int (i+j)) H
def avZ:V->V->Hp->VK->Prop:=λx y H Q=>∃i j,x= .int i/\y= .int j/\Q (.int (i - j)) H
theorem apd:arZ X .Add atp:=by
 rintro pins s σ H x y u v Q I rx ry ⟨i,j,rfl,rfl,q⟩;obtain ⟨t,rfl⟩:=(show ∃t,u=JR i t from rx);obtain ⟨t',rfl⟩:=(show ∃t',v=JR j t' from ry);exact PyProof.Rows.iadd_int ⟨.int (i+j),H,I.tok _,⟨_,rfl⟩,q⟩
theorem aog{pl:Sem Bool}{m:Str}{apos:Pos}{args:List Expr}{pins:List (Addr×Obj)}{s:Shared}{σ:St}{H:Hp}{Q:Value->Shared->Prop}{te:TE}(he:PE X e te)(I:Inv X pins σ H s)(h:te σ H λx H1=>∃a C dx fs g,x= .ref a/\H1 a=some (.ins C dx fs)/\Cls X.K C/\Meth X.K C m g/\fs.lookup m=none/\
   ∀s1,Inv X pins σ H1 s1->wpAny (model X.prog X.w) X.A (callWith pos (.ref g) [.ref a] (backTo pos (starEach args X.env)) (backToKw pos (keywordEach [] X.env))) Q X.xe s1)(ht:eval (.Call (.Attribute e m apos) args [] pos) X.env=(do
   let ov <-eval e X.env
   standAt apos.atName
   let (f,first) <-holding [ov] (getMethod ov m pl)
   callWith pos f first (backTo pos (starEach args X.env)) (backToKw pos (keywordEach [] X.env)))):
  wpAny (model X.prog X.w) X.A (eval (.Call (.Attribute e m apos) args [] pos) X.env) Q X.xe s:=by
 refine Pq (pl:=pl) (jL (he pins s σ H _ I h) λu s1 ⟨x,H1,I1,rx,a,C,dx,fs,g,ex,ea,c,k,l,q⟩=>?_) ht;subst ex;obtain rfl:u=dX a:=rx;exact Ql I1 ea c k l (q s1 I1)
end
end L2
namespace L2
open PySem PySem.Spec PyProof.Rows
structure wg(k:Nat)(A:Around):Prop where
 hd:A.handled=none
 dp:A.depth+3*k+5<recursionLimit
 un:A.units+16*k+200<cLine
theorem wg.mono{j k:Nat}{A:Around}(r:wg k A)(h:j<=k):wg j A:=⟨r.hd,by have:=r.dp;omega,by have:=r.un;omega⟩
theorem wg.deeper{k:Nat}{A:Around}(r:wg (k+1) A)(env:Env):wg k (A.deeper env):=
 ⟨r.hd,by have:=r.dp;show A.depth+1+3*k+5<_;omega,by have:=r.un;show A.units+3+16*k+200<_;omega⟩
theorem ago{A:Around}{C:Addr}{us:List Value}{kw:List (Str×Value)}:(A.under (.builtin "type.__call__" ⟨.ref C::us,kw⟩)).depth=A.depth+1:=by
 first | rfl | simp [aiw,Code.weight,Code.isCreation,Code.isGuard,Code.isCaller,Code.frames,ait,guardIds]
theorem agn{A:Around}{C:Addr}{us:List Value}{kw:List (Str×Value)}:(A.under (.builtin "type.__call__" ⟨.ref C::us,kw⟩)).units=A.units+1:=by
 first | rfl | simp [aiw,Code.cUnits,Code.frames,ait]
theorem wg.make{k:Nat}{A:Around}(r:wg (k+1) A)(C:Addr)(us:List Value)(kw:List (Str×Value)):wg k (A.under (.builtin "type.__call__" ⟨.ref C::us,kw⟩)):=
 ⟨r.hd,by have:=r.dp;rw [ago];omega,by have:=r.un;rw [agn];omega⟩
theorem wg.depth{k:Nat}{A:Around}(r:wg k A):A.depth<recursionLimit:=by have:=r.dp;omega
def aoz:TA:=λ_ H Q=>Q [] H
def aqE(ta:TE)(tr:TA):TA:=λσ H Q=>ta σ H λx H1=>tr σ H1 λxs H2=>Q (x::xs) H2
section
variable {X:Cx} {e:Expr} {es:List Expr} {te:TE} {t:TA} {pos:Pos}
theorem aG:PA X [] aoz:=λ_ _ _ _ H Q I h=>m5 ⟨[],H,I,.nil,h⟩
theorem aq(ha:PE X e te)(hr:PA X es t)(hs:starEach (e::es) X.env=(false,eval e X.env)::starEach es X.env:=by rfl):PA X (e::es) (aqE te t):=(by apply aj:aa (by
 intro pos pins s σ H Q I h;rw [hs];show wpAny _ _ (spliced ((false,eval e X.env)::backTo pos (starEach es X.env))) _ _ s;refine jl (jL (ha pins s σ H _ I h) λu s1 ⟨x,H1,I1,r1,q1⟩=>?_);exact jL (hr pos pins s1 σ H1 _ I1 q1) λus s2 ⟨xs,H2,I2,r2,q2⟩=>⟨x::xs,H2,I2,.cons r1 r2,q2⟩))
def asM(t:TA):TE:=λσ H Q=>t σ H λxs H1=>xs.length<=sizeLine/\∀p,H1 p=none->Q (.ref p) (upd H1 p (.tup xs))
def asT(t:TA):TE:=λσ H Q=>t σ H λxs H1=>xs.length<=sizeLine/\∀p,H1 p=none->Q (.ref p) (upd H1 p (.lst xs))
theorem aoV{x1}(h:PA X es t):PE X (.Tuple es x1 pos) (asM t):=(by apply aj:aa (by
 intro pins s σ H Q I hq;refine wpAny_Tuple_spliced (jL (h pos pins s σ H _ I hq) λus s1 ⟨xs,H1,I1,r,z,q⟩=>⟨by rw [<-r.length];exact z,?_⟩);have hf:H1 s1.heap.objs.size=none:=I1.hok.fresh (aU _);refine ⟨.ref s1.heap.objs.size,upd H1 s1.heap.objs.size (.tup xs),I1.laid (t':=s1.toks) (λb u e=>aA _ e) (aU _) ?_,rfl,q _ hf⟩;exact ⟨z,us,r,⟨_,aR _ rfl,rfl,_,rfl⟩⟩))
theorem cZ(h:PA X es t):PE X (.List es pos) (asT t):=(by apply aj:aa (by
 intro pins s σ H Q I hq;refine wpAny_List_spliced (jL (h pos pins s σ H _ I hq) λus s1 ⟨xs,H1,I1,r,z,q⟩=>⟨by rw [<-r.length];exact z,?_⟩);have hf:H1 s1.heap.objs.size=none:=I1.hok.fresh (aU _);refine ⟨.ref s1.heap.objs.size,upd H1 s1.heap.objs.size (.lst xs),I1.laid (t':=s1.toks) (λb u e=>aA _ e) (aU _) ?_,rfl,q _ hf⟩;exact ⟨z,us,0,r,aR _ rfl⟩))
end
abbrev Sp:=List V->Hp->VK->XK->Prop
abbrev CXT:=List Env->Hp->Shared->XK->Value->Shared->Prop
structure afj(P:Program)(w:World)(K:az)(mg:Str->Option Value)(base:Heap)(A:Around)(outer:List Env)(s:Shared)(H:Hp):Prop where
 frames:A.frames=some outer
 mod:Mod K mg base
 bs:∀b o,base.get? b=some o->s.heap.get? b=some o/\H b=none
 bsz:base.objs.size<=s.heap.objs.size
 VV:s.heap.FunFrames base outer
 frf:∀b∈frs outer,H b=none
 hok:JQ P w H s.heap
 bare:AllBare s.gens
def CE(outer:List Env)(P:Program)(w:World)(H:Hp)(s:Shared)(Q:VK)(u:Value)(s':Shared):Prop:=
 ∃v H',s'.os=s.os/\AllBare s'.gens/\Un (frs outer) [] H H' s.heap s'.heap/\JQ P w H' s'.heap/\RelV v u/\Q v H'
def CR(CX:CXT)(outer:List Env)(P:Program)(w:World)(H:Hp)(s:Shared)(Q:VK)(E:XK)(r:Result)(s':Shared):Prop:=
 match r with
 |.ok (.ret u)=>CE outer P w H s Q u s'
 |.ok _=>False
 |.error e=>CX outer H s E e s'
structure fU(P:Program)(w:World)(K:az)(mg:Str->Option Value)(base:Heap)(CX:CXT)(k:Nat)(f:Addr)(fd:FuncData)(ps:List Str)(sp:Sp):Prop where
 len:∀vs H Q E,sp vs H Q E->vs.length=ps.length
 run:∀(A:Around) (outer:List Env) (s:Shared) (H:Hp) (args:Args) (us:List Value) (vs:List V) (Q:VK) (E:XK),wg k A->afj P w K mg base A outer s H->BindsTo s fd args (ps.zip us)->Vals vs us->sp vs H Q E->
  codeAny (model P w) A (.call (.ref f) args) (CR CX outer P w H s Q E) s
theorem fU.mono{P:Program}{w:World}{K:az}{mg:Str->Option Value}{base:Heap}{CX:CXT}{j k:Nat}{f:Addr}{fd:FuncData}{ps:List Str}{sp:Sp}(F:fU P w K mg base CX j f fd ps sp)(h:j<=k):
  fU P w K mg base CX k f fd ps sp:=⟨F.len,λA outer s H args us vs Q E hr=>F.run A outer s H args us vs Q E (hr.mono h)⟩
theorem afj.make{P:Program}{w:World}{K:az}{mg:Str->Option Value}{base:Heap}{A:Around}{outer:List Env}{s:Shared}{H:Hp}(e:afj P w K mg base A outer s H)(C:Addr)(us:List Value)(kw:List (Str×Value)):
  afj P w K mg base (A.under (.builtin "type.__call__" ⟨.ref C::us,kw⟩)) outer s H:=⟨by first | exact e.frames | (simpa [aiw,Code.envs,ait,pushEnvs] using e.frames),e.mod,e.bs,e.bsz,e.VV,e.frf,e.hok,e.bare⟩
section
variable {X:Cx} {pins:List (Addr×Obj)} {σ:St} {H:Hp} {s s':Shared}
theorem Inv.env0(I:Inv X pins σ H s):afj X.prog X.w X.K X.mg X.base X.A X.stack s H:=
 ⟨I.ok.frames,I.ok.mod,I.bs,aY I.ok.bsz I.sz,I.stack,I.ahy,I.hok,I.bare⟩
theorem Inv.after{Q:VK}{u:Value}(I:Inv X pins σ H s)(h:CE X.stack X.prog X.w H s Q u s'):EP X pins σ Q u s':=by
 obtain ⟨v,H',os,bare,un,hok,r,q⟩:=h;obtain ⟨hh,g,d,t,os'⟩:=s';obtain rfl:os'=s.os:=os;exact ⟨v,H',I.call (h':=hh) (g':=g) (d':=d) (t':=t) (ch:=[]) un hok bare (λb z=>absurd z (by simp)),r,q⟩
end
def aqF(sp:Sp)(Wg:List V)(E:XK)(t:TA):TE:=λσ H Q=>t σ H λvs H1=>sp (vs++Wg) H1 Q E
def an2(C:Addr)(m:Str)(sp:Sp)(Wg:List V)(E:XK)(ta:TE)(t:TA):TE:=λσ H Q=>ta σ H λx H1=>∃a,x= .ref a/\MethAt C m a H1 (t σ H1 λvs H2=>sp (x::(vs++Wg)) H2 Q E)
def an3(C:Addr)(sp:Sp)(Wg:List V)(E:XK)(t:TA):TE:=λσ H Q=>t σ H λvs H1=>∀x dx,H1 x=none->H1 dx=none->dx≠x->
 sp (.ref x::(vs++Wg)) (upd (upd H1 dx (.own x)) x (.ins C dx [])) (λv H2=>v= .non/\Q (.ref x) H2) E
def Binds(K:az)(fd:FuncData)(ps:List Str)(ds:List Value):Prop:=
 ∀(s:Shared) (us:List Value),K.In s.heap->(us++ds).length=ps.length->BindsTo s fd ⟨us,[]⟩ (ps.zip (us++ds))
theorem Binds.all{K:az}{fd:FuncData}{ps:List Str}(h:∀us:List Value,us.length=ps.length->bindArgs fd ⟨us,[]⟩=pure (ps.zip us)):Binds K fd ps []:=λs us _ hl=>by
 rw [iw] at hl⊢;exact .of_eq (h us hl)
def Passes(CX:CXT)(X:Cx)(E:XK):Prop:=∀(pins:List (Addr×Obj)) (σ:St) (H:Hp) (s:Shared) (e:Value) (s':Shared),Inv X pins σ H s->CX X.stack H s E e s'->X.xe e s'
section
variable {X:Cx} {CX:CXT} {k:Nat} {f C:Addr} {fd:FuncData} {ps:List Str} {sp:Sp} {Wg:List V} {ds:List Value} {E:XK} {x m:Str} {p pos apos:Pos} {e o:Expr} {es:List Expr} {ta:TE} {t:TA}
theorem ab2{pins:List (Addr×Obj)}{σ:St}{H:Hp}{s:Shared}{Q:VK}{us:List Value}{vs:List V}(F:fU X.prog X.w X.K X.mg X.base CX k f fd ps sp)(hr:wg k X.A)(hb:Binds X.K fd ps ds)(hd:Vals Wg ds)(hx:Passes CX X E)(I:Inv X pins σ H s)(r:Vals vs us)(h:sp (vs++Wg) H Q E):wpAny (model X.prog X.w) X.A (call (.ref f) us) (EP X pins σ Q) X.xe s:=(by apply aj:aa (by
 have r2:Vals (vs++Wg) (us++ds):=r.append hd;have hl:(us++ds).length=ps.length:=by rw [<-r2.length];exact F.len _ _ _ _ h
 refine wpAny_call (codeAny_mono (F.run X.A X.stack s H ⟨us,[]⟩ (us++ds) (vs++Wg) Q E hr I.env0 (hb s us I.kIn hl) r2 h) λr s' hq=>?_);cases r with
 |error e=>exact hx pins σ H s e s' I hq
 |ok fl=>
  cases fl with
  |ret u=>exact I.after hq
  |next=>exact gZ hq
  |brk=>exact gZ hq
  |cont=>exact gZ hq))
theorem cJ(F:fU X.prog X.w X.K X.mg X.base CX k f fd ps sp)(hr:wg k X.A)(hg:Gl X x)(hm:X.mg x=some (.ref f))(hk:lW X.K (.ref f)=true)(hb:Binds X.K fd ps ds)(hd:Vals Wg ds)(hx:Passes CX X E)(ha:PA X (e::es) t)(hdb:(x==("__debug__":Str))=false:=by decide)(he:starEach (e::es) X.env=(false,eval e X.env)::starEach es X.env:=by rfl)(hpl:(backTo pos (starEach es X.env)).any (·.1)=false:=by rfl):
  PE X (.Call (.Name x p) (e::es) [] pos) (aqF sp Wg E t):=by
 intro pins s σ H Q I h;refine wpAny_Call_Name_kw (We I hg hm ?_ hdb);refine Ez (h₀:=X.base) I.ok.mod.kin hk (jL (ha pos pins s σ H _ I h) λus s1 ⟨vs,H1,I1,r,q⟩=>⟨I1.kIn,?_⟩) he hpl;exact ab2 F hr hb hd hx I1 r q
theorem Hj{pl:Sem Bool}(he:PE X o ta)(c:Cls X.K C)(hm:Meth X.K C m f)(F:fU X.prog X.w X.K X.mg X.base CX k f fd ps sp)(hr:wg k X.A)(hb:Binds X.K fd ps ds)(hd:Vals Wg ds)(hx:Passes CX X E)(ha:PA X (e::es) t)(hst:starEach (e::es) X.env=(false,eval e X.env)::starEach es X.env:=by rfl)(hpl:(backTo pos (starEach es X.env)).any (·.1)=false:=by rfl)(ht:eval (.Call (.Attribute o m apos) (e::es) [] pos) X.env=(do
   let ov <-eval o X.env
   standAt apos.atName
   let (f,first) <-holding [ov] (getMethod ov m pl)
   callWith pos f first (backTo pos (starEach (e::es) X.env)) (backToKw pos (keywordEach [] X.env))):=by rfl):
  PE X (.Call (.Attribute o m apos) (e::es) [] pos) (an2 C m sp Wg E ta t):=(by apply aj:aa (by
 intro pins s σ H Q I h;refine Pq (pl:=pl) (jL (he pins s σ H _ I h) λu s1 ⟨x,H1,I1,rx,a,ex,dx,fs,ea,l,q⟩=>?_) ht;subst ex;obtain rfl:u=dX a:=rx;refine Ql I1 ea c hm l ?_;refine Ez (first:=[.ref a]) (h₀:=X.base) I.ok.mod.kin hm.kp (jL (ha pos pins s1 σ H1 _ I1 q) λus s2 ⟨vs,H2,I2,r,q2⟩=>⟨I2.kIn,?_⟩) hst hpl;exact ab2 (us:=.ref a::us) (vs:=.ref a::vs) F hr hb hd hx I2 (.cons rfl r) q2))
theorem Fo{pl:Sem Bool}(he:PE X o ta)(c:Cls X.K C)(hm:Meth X.K C m f)(F:fU X.prog X.w X.K X.mg X.base CX k f fd ps sp)(hr:wg k X.A)(hb:Binds X.K fd ps ds)(hd:Vals Wg ds)(hx:Passes CX X E)(ht:eval (.Call (.Attribute o m apos) [] [] pos) X.env=(do
   let ov <-eval o X.env
   standAt apos.atName
   let (f,first) <-holding [ov] (getMethod ov m pl)
   callWith pos f first (backTo pos (starEach [] X.env)) (backToKw pos (keywordEach [] X.env))):=by rfl):
  PE X (.Call (.Attribute o m apos) [] [] pos) (an2 C m sp Wg E ta aoz):=by
 intro pins s σ H Q I h;refine Pq (pl:=pl) (jL (he pins s σ H _ I h) λu s1 ⟨x,H1,I1,rx,a,ex,dx,fs,ea,l,q⟩=>?_) ht;subst ex;obtain rfl:u=dX a:=rx;refine Ql I1 ea c hm l ?_;exact PySem.W.callWith_K0 (first:=[.ref a]) I1.kIn hm.kp (ab2 (us:=[.ref a]) (vs:=[.ref a]) F hr hb hd hx I1 (.cons rfl .nil) q)
structure Mk(K:az)(C f:Addr):Prop where
 makes:abw K C=true
 init:ik K (.ref C) "__init__"=some (some (.ref f))
 fn:Oa K (.ref f)=true
 kp:lW K (.ref C)=true
theorem adZ{pins:List (Addr×Obj)}{σ:St}{H:Hp}{s:Shared}{Q:VK}{us:List Value}{vs:List V}(M:Mk X.K C f)(F:fU X.prog X.w X.K X.mg X.base CX k f fd ps sp)(hr:wg (k+1) X.A)(hb:Binds X.K fd ps ds)(hd:Vals Wg ds)(hx:Passes CX X E)(I:Inv X pins σ H s)(r:Vals vs us)(h:∀x dx,H x=none->H dx=none->dx≠x->sp (.ref x::(vs++Wg)) (upd (upd H dx (.own x)) x (.ins C dx [])) (λv H2=>v= .non/\Q (.ref x) H2) E):
  wpAny (model X.prog X.w) X.A (call (.ref C) us) (EP X pins σ Q) X.xe s:=(by apply aj:aa (by
 have hq:=h (s.heap.objs.size+1) s.heap.objs.size (I.hok.fresh (Ak _)) (I.hok.fresh (aU _)) (b8 (jY _));have I2:=Inv.made (C:=C) I;have r2:Vals (V.ref (s.heap.objs.size+1)::(vs++Wg)) (dX (s.heap.objs.size+1)::(us++ds)):=.cons rfl (r.append hd);have hl:(dX (s.heap.objs.size+1)::us++ds).length=ps.length:=by
  have e:=r2.length;rw [F.len _ _ _ _ hq] at e;exact e.symm
 refine wpAny_call (aly (f:=f) I.kIn M.makes M.init (beq_iff_eq.mp M.fn) (codeAny_mono (F.run _ X.stack _ _ ⟨dX (s.heap.objs.size+1)::us,[]⟩ (dX (s.heap.objs.size+1)::(us++ds)) _ _ E (hr.make C us [])
  (I2.env0.make C us []) (hb _ (dX (s.heap.objs.size+1)::us) I2.kIn hl) r2 hq) λr s' hq'=>?_))
 cases r with
 |error e=>exact hx pins σ _ _ e s' I2 hq'
 |ok fl=>
  cases fl with
  |ret u=>
   obtain ⟨v,H',I3,rv,ev,q3⟩:=I2.after hq';subst ev;exact ⟨rv,⟨V.ref (s.heap.objs.size+1),H',I3,rfl,q3⟩⟩
  |next=>exact gZ hq'
  |brk=>exact gZ hq'
  |cont=>exact gZ hq'))
theorem acg(M:Mk X.K C f)(F:fU X.prog X.w X.K X.mg X.base CX k f fd ps sp)(hr:wg (k+1) X.A)(hg:Gl X x)(hm:X.mg x=some (.ref C))(hb:Binds X.K fd ps ds)(hd:Vals Wg ds)(hx:Passes CX X E)(ha:PA X (e::es) t)(hdb:(x==("__debug__":Str))=false:=by decide)(he:starEach (e::es) X.env=(false,eval e X.env)::starEach es X.env:=by rfl)(hpl:(backTo pos (starEach es X.env)).any (·.1)=false:=by rfl):
  PE X (.Call (.Name x p) (e::es) [] pos) (an3 C sp Wg E t):=by
 intro pins s σ H Q I h;refine wpAny_Call_Name_kw (We I hg hm ?_ hdb);refine Ez (h₀:=X.base) I.ok.mod.kin M.kp (jL (ha pos pins s σ H _ I h) λus s1 ⟨vs,H1,I1,r,q⟩=>⟨I1.kIn,?_⟩) he hpl;exact adZ M F hr hb hd hx I1 r q
theorem Rk(M:Mk X.K C f)(F:fU X.prog X.w X.K X.mg X.base CX k f fd ps sp)(hr:wg (k+1) X.A)(hg:Gl X x)(hm:X.mg x=some (.ref C))(hb:Binds X.K fd ps ds)(hd:Vals Wg ds)(hx:Passes CX X E)(hdb:(x==("__debug__":Str))=false:=by decide):PE X (.Call (.Name x p) [] [] pos) (an3 C sp Wg E aoz):=by
 intro pins s σ H Q I h;refine wpAny_Call_Name_kw (We I hg hm ?_ hdb);exact PySem.W.callWith_K0 I.kIn M.kp (adZ (us:=[]) M F hr hb hd hx I .nil h)
end
structure bQ(N P:List Str)(sc:Scope):Prop where
 kind:sc.kind= .function
 co:sc.isCoroutine=false
 gen:sc.isGenerator=false
 nd:N.Nodup
 pre:N.take P.length=P
 par:∀x∈P,sc.names.lookup x=some .local\/sc.names.lookup x=some .cell
 ao1:∀y∈sc.names,y.2≠ .free
theorem abk{kindOf:Str->Option NameKind}{x:Str}:∀{binds:List (Str×Value)} {m:Str->Option Value},(∀v,(x,v)∉binds)->bindL kindOf binds m x=m x
 |[],_,_=>rfl
 |(n,v)::r,m,h=>by
  unfold bindL;rw [abk λw hw=>h w (aV _ hw)];split
  ·have:x≠n:=by rintro rfl;exact h v bz
   simp [this]
  ·rfl
theorem abm{kindOf:Str->Option NameKind}{x:Str}:∀{binds:List (Str×Value)} {m:Str->Option Value},(∀v,(x,v)∉binds)->bindC kindOf binds m x=m x
 |[],_,_=>rfl
 |(n,v)::r,m,h=>by
  unfold bindC;rw [abm λw hw=>h w (aV _ hw)];split
  ·rfl
  ·have:x≠n:=by rintro rfl;exact h v bz
   simp [this]
theorem abl{kindOf:Str->Option NameKind}{x:Str}{v:Value}:∀{P:List Str} {vs:List Value} {i:Nat} {m:Str->Option Value},P.Nodup->P[i]? =some x->vs[i]? =some v->kindOf x=some .local->
  bindL kindOf (P.zip vs) m x=some v
 |[],_,_,_,_,h,_,_=>by simp at h
 |_::_,[],_,_,_,_,h,_=>by simp at h
 |p::P,w::vs,0,m,nd,h1,h2,hk=>by
  simp at h1 h2;subst h1;subst h2;show bindL kindOf ((p,w)::P.zip vs) m p=_;unfold bindL;rw [abk λv hv=>(pW.mp nd).1 (Ou hv).1,if_pos hk];simp
 |p::P,w::vs,i+1,m,nd,h1,h2,hk=>by
  show bindL kindOf ((p,w)::P.zip vs) m x=_;unfold bindL;exact abl (i:=i) (pW.mp nd).2 (by simpa using h1) (by simpa using h2) hk
theorem abn{kindOf:Str->Option NameKind}{x:Str}{v:Value}:∀{P:List Str} {vs:List Value} {i:Nat} {m:Str->Option Value},P.Nodup->P[i]? =some x->vs[i]? =some v->kindOf x≠some .local->
  bindC kindOf (P.zip vs) m x=some v
 |[],_,_,_,_,h,_,_=>by simp at h
 |_::_,[],_,_,_,_,h,_=>by simp at h
 |p::P,w::vs,0,m,nd,h1,h2,hk=>by
  simp at h1 h2;subst h1;subst h2;show bindC kindOf ((p,w)::P.zip vs) m p=_;unfold bindC;rw [abm λv hv=>(pW.mp nd).1 (Ou hv).1,if_neg hk];simp
 |p::P,w::vs,i+1,m,nd,h1,h2,hk=>by
  show bindC kindOf ((p,w)::P.zip vs) m x=_;unfold bindC;exact abn (i:=i) (pW.mp nd).2 (by simpa using h1) (by simpa using h2) hk
noncomputable def start (N:List Str) (vs:List V):St:=vs.map some++bx (N.length - vs.length) none
noncomputable def Y0 (CX:CXT) (P:Program) (w:World) (K:az) (mg:Str->Option Value) (base:Heap) (N:List Str) (qual:Str) (scope:Scope) (f:Addr) (cd:Value) (A:Around) (outer:List Env) (s:Shared) (H:Hp) (E:XK):Cx where
 prog:=P
 w:=w
 K:=K
 mg:=mg
 base:=base
 A:=A.deeper (envOfC qual scope s.heap.objs.size f cd)
 N:=N
 s_0:=s
 H_0:=H
 env:=envOfC qual scope s.heap.objs.size f cd
 outer:=outer
 stack:=envOfC qual scope s.heap.objs.size f cd::outer
 ex:=[]
 calm:=true
 fn:=λ_=>true
 pn:=[]
 xe:=λe s'=>wpAny (model P w) (A.deeper (envOfC qual scope s.heap.objs.size f cd)) (leaving (envOfC qual scope s.heap.objs.size f cd) e) (λ_ s''=>CX outer H s E e s'') (λe' s''=>CX outer H s E e' s'') s'
theorem ae4{sc:Scope}{n:Nat}{x:Str}(h:sc.names.lookup x=some .cell):∃c,(cellsFrom n sc.names []).lookup x=some c:=by
 have q:=aio sc.names n [] (.inl h);exact afx.mp q
theorem aju{CX:CXT}{P:Program}{w:World}{K:az}{mg:Str->Option Value}{base:Heap}{N ps:List Str}{qual:Str}{scope:Scope}{f:Addr}{cd:Value}{A:Around}{outer:List Env}{s s1:Shared}{H:Hp}{E:XK}{us:List Value}{vs:List V}(S:bQ N ps scope)(hd:A.handled=none)(e0:afj P w K mg base A outer s H)(hl:vs.length=ps.length)(r:Vals vs us)(x:InCallC s s.heap.objs.size (bindL (envOfC qual scope s.heap.objs.size f cd).kindOf (ps.zip us) λ_=>none) (cellsFrom (s.heap.objs.size+1) scope.names []) (bindC (envOfC qual scope s.heap.objs.size f cd).kindOf (ps.zip us) λ_=>none) s1):
  Inv (Y0 CX P w K mg base N qual scope f cd A outer s H E) [] (start N vs) H s1:=(by apply aj:aa (by
 have hpl:ps.length<=N.length:=by have:=congrArg wu S.pre;rw [bO] at this;omega
 obtain ⟨h1,tk,rfl,hk⟩:=x.done;have noA:∀b:Addr,b∉(Y0 CX P w K mg base N qual scope f cd A outer s H E).ex:=λb z=>absurd (show b∈([]:List Addr) from z) (by simp);refine ⟨⟨e0.mod,S.kind,rfl,rfl,aU _,λy z c h1 h2=>?_,λy hy=>?_,λy c _ h=>?_,λ_=>hd,Around.frames_deeper e0.frames,.inr ⟨rfl,rfl⟩,λb z=>absurd z (noA b),e0.bs,e0.bsz,λb _ _=>noA b,λb z=>absurd z (noA b),e0.VV,e0.frf⟩,
  rfl,e0.bare,Un.kept hk,⟨_,x.toInCall.ns,λi y v h1 h2 h3=>?_⟩,λy c h=>⟨_,x.cell y c h⟩,e0.hok.fresh (aU _),λy c h=>?_,λp hp=>absurd (show p∈([]:List (Addr×Obj)) from hp) (by simp),e0.hok.kept hk,?_⟩
 ·exact name_of_addr x.apart (dY h1) (dY h2)
 ·have hy:scope.names.lookup y=some .cell\/scope.names.lookup y=some .free:=hy;rcases hy with hy | hy
  ·exact ae4 hy
  ·exact absurd rfl (S.ao1 _ (dY hy))
 ·exact Dv (x.above y c (dY h))
 ·have hi:i<vs.length:=by
   unfold start at h2;by_cases hi:i<vs.length
   ·exact hi
   ·rw [fB (by simpa using hi)] at h2;rw [List.getElem?_replicate] at h2;split at h2<;>cases h2
  have ha:vs[i]? =some v:=by
   unfold start at h2;rw [eG (by simpa using hi),aW] at h2;cases e:vs[i]? with
   |none=>rw [e] at h2;cases h2
   |some a=>rw [e] at h2;cases h2;rfl
  obtain ⟨u,hu,rv⟩:=r.get ha;have hp:ps[i]? =some y:=by
   rw [<-S.pre,List.getElem?_take_of_lt (by omega)];exact h1
  have ndP:ps.Nodup:=by rw [<-S.pre];exact S.nd.sublist (List.take_sublist _ _)
  refine ⟨u,rv,?_⟩;rcases S.par y (aM hp) with k | k
  ·exact .inl ⟨k,abl ndP hp hu k⟩
  ·obtain ⟨c,e⟩:=ae4 (n:=s.heap.objs.size+1) k;refine .inr ⟨.inl k,c,e,?_⟩;have q:=x.cell y c e;rw [abn ndP hp hu (by show scope.names.lookup y≠_;rw [k];decide)] at q;exact q
 ·exact e0.hok.fresh (Dv (x.above y c (dY h)))
 ·unfold start;show _=N.length;rw [aJ,ao,mD];omega))
theorem arF{CX:CXT}{P:Program}{w:World}{K:az}{mg:Str->Option Value}{base:Heap}{k:Nat}{f:Addr}{name qual:Str}{params:Arguments}{body:List Stmt}{scope:Scope}{dV kV doc pm cdv ct oc:Value}{an od:Option Addr}{osl:Array (Option Value)}{N ps:List Str}{sp:Sp}(lk:K.lookup f=some ⟨oc,od,.func (tO name qual params body scope dV kV doc pm an cdv ct),osl⟩)(hcd:QQ K cdv qual=true)(S:bQ N ps scope)(len:∀vs H Q E,sp vs H Q E->vs.length=ps.length)(hbody:∀(A:Around) (outer:List Env) (s:Shared) (H:Hp) (vs:List V) (Q:VK) (E:XK),wg k (A.deeper (envOfC qual scope s.heap.objs.size f cdv))->sp vs H Q E->
   ∃t,PSs (Y0 CX P w K mg base N qual scope f cdv A outer s H E) body t/\t {nx:=λ_ H'=>Q .non H',rt:=Q} (start N vs) H):
  fU P w K mg base CX (k+1) f (tO name qual params body scope dV kV doc pm an cdv ct) ps sp:=(by apply aj:aa (by
 refine ⟨len,λA outer s H args us vs Q E hr e0 hb r hsp=>?_⟩;have hl:=len _ _ _ _ hsp;have KX:K.In s.heap:=e0.mod.kin.keeps λb o e=>(e0.bs b o e).1;have lim:s.heap.NoLimit:=e0.mod.nolimit.keeps λb o e=>(e0.bs b o e).1;have hkind:∀y∈ps.zip us,scope.names.lookup y.1=some .local\/(scope.names.lookup y.1=some .cell/\((cellsFrom (s.heap.objs.size+1) scope.names []).lookup y.1).isSome=true):=λ⟨n,v⟩ hy=>by
  rcases S.par n (Ou hy).1 with q | q
  ·exact .inl q
  ·exact .inr ⟨q,aio _ _ _ (.inl q)⟩
 refine codeAny_call_function hr.depth (KX _ _ lk) rfl S.co S.gen rfl (PySem.W.codeRec_of KX hcd) (hb _ _ _ _ ?_);refine wpAny_newFunctionEnv_cells S.kind hkind λenv he s1 x=>?_;subst he;refine ⟨lim.keeps x.toInCall.keep,codeAny_func ?_⟩;obtain ⟨t,ht,hq⟩:=hbody A outer s H vs Q E (hr.deeper _) hsp;have I:Inv (Y0 CX P w K mg base N qual scope f cdv A outer s H E) [] (start N vs) H s1:=aju S hr.hd e0 hl r x;refine wpAny_mono (ht [] s1 (start N vs) H _ I hq) (λfl s' hs=>?_) λe s' hs=>hs;have fin:∀{σ':St} {H':Hp} {v:V} {u:Value},Inv (Y0 CX P w K mg base N qual scope f cdv A outer s H E) [] σ' H' s'->RelV v u->Q v H'->CE outer P w H s Q u s':=
  λ{σ' H' v u} J rv q=>⟨v,H',J.os,J.bare,J.base,J.hok,rv,q⟩
 cases fl with
 |ret u=>
  obtain ⟨v,σ',H',J,rv,q⟩:=hs;exact fin J rv q
 |next=>
  obtain ⟨σ',H',J,q⟩:=hs;exact fin (v:=V.non) (u:=Ey) J rfl q
 |brk=>
  obtain ⟨_,_,_,q⟩:=hs;exact gZ q
 |cont=>
  obtain ⟨_,_,_,q⟩:=hs;exact gZ q))
end L2
namespace L2
open PySem PySem.Spec PyProof.Rows
section
variable {X:Cx} {x:Str} {p pos:Pos} {e:Expr} {es:List Expr} {t:TA} {id T:String} {r:List V->Hp->VK->Prop}
def tCB(r:List V->Hp->VK->Prop)(t:TA):TE:=λσ H Q=>t σ H λvs H1=>r vs H1 Q
theorem cH(hc:Cq X (.builtin id) r)(hg:Gl X x)(hm:X.mg x=none)(hv:bootBuiltins x=some (.builtin id))(ha:PA X (e::es) t)(hn:x≠"__name__":=by decide)(hdb:(x==("__debug__":Str))=false:=by decide)(he:starEach (e::es) X.env=(false,eval e X.env)::starEach es X.env:=by rfl)(hpl:(backTo pos (starEach es X.env)).any (·.1)=false:=by rfl):PE X (.Call (.Name x p) (e::es) [] pos) (tCB r t):=by
 intro pins s σ H Q I h;refine wpAny_Call_Name_kw (KZ I hg hm hv ?_ hn hdb);exact ZF (jL (ha pos pins s σ H _ I h) λus s1 ⟨vs,H1,I1,r1,q1⟩=>hc pins s1 σ H1 vs us Q I1 r1 q1) he hpl
theorem TX(hc:Cq X (.type T) r)(hg:Gl X x)(hm:X.mg x=none)(hv:bootBuiltins x=some (.type T))(ha:PA X (e::es) t)(hn:x≠"__name__":=by decide)(hdb:(x==("__debug__":Str))=false:=by decide)(he:starEach (e::es) X.env=(false,eval e X.env)::starEach es X.env:=by rfl)(hpl:(backTo pos (starEach es X.env)).any (·.1)=false:=by rfl):PE X (.Call (.Name x p) (e::es) [] pos) (tCB r t):=by
 intro pins s σ H Q I h;refine wpAny_Call_Name_kw (KZ I hg hm hv ?_ hn hdb);exact lH (jL (ha pos pins s σ H _ I h) λus s1 ⟨vs,H1,I1,r1,q1⟩=>hc pins s1 σ H1 vs us Q I1 r1 q1) he hpl
end
end L2
namespace HT
open PySem PyProof.Rows
section
variable {prog:Program} {w:World} {A:Around} {E:Value->Shared->Prop} {s:Shared}
noncomputable def sIx (n d:Nat):Option Int->Nat
 |none=>d
 |some v=>if v<0 then (v+(n:Int)).toNat else min v.toNat n
theorem adX(n d:Nat):sIx n d none=d:=rfl
theorem Wa(n d k:Nat):sIx n d (some (k:Int))=min k n:=by
 show (if (k:Int)<0 then ((k:Int)+(n:Int)).toNat else min (k:Int).toNat n)=min k n;rw [if_neg (by omega),gA]
end
end HT
namespace L2
open PySem PySem.Spec PyProof.Rows
abbrev TO:=St->Hp->(Option Int->Hp->Prop)->Prop
def PO(X:Cx)(e:Option Expr)(t:TO):Prop:=
 ∀(pins:List (Addr×Obj)) (s:Shared) (σ:St) (H:Hp) (Q:Option Int->Hp->Prop),Inv X pins σ H s->t σ H Q->
  wpAny (model X.prog X.w) X.A (evalPart e X.env) (λu s'=>∃o H',Inv X pins σ H' s'/\IsPart u o/\Q o H') X.xe s
def amK:TO:=λ_ H Q=>Q none H
def aqx(t:TE):TO:=λσ H Q=>t σ H λx H1=>∃i,x= .int i/\Q (some i) H1
section
variable {X:Cx} {e:Expr} {te:TE} {lo hi:Option Expr} {tl th:TO} {pos p2:Pos}
theorem pM:PO X none amK:=by
 intro pins s σ H Q I h;rw [evalPart_none];exact wpAny_pure ⟨none,H,I,.none,h⟩
theorem gr(h:PE X e te):PO X (some e) (aqx te):=by
 intro pins s σ H Q I hw;rw [evalPart_some];refine jL (h pins s σ H _ I hw) λu s1 ⟨x,H1,I1,r1,q1⟩=>?_;obtain ⟨i,rfl,q⟩:=q1;obtain ⟨t,rfl⟩:=r1;exact ⟨some i,H1,I1,.int i t,q⟩
def SlR(X:Cx)(r:V->Option Int->Option Int->Hp->VK->Prop):Prop:=
 ∀(pins:List (Addr×Obj)) (s:Shared) (σ:St) (H:Hp) (x:V) (v vl vu:Value) (lo hi:Option Int) (sl:Addr) (Q:VK),Inv X pins σ H s->RelV x v->s.heap.IsSliceOf sl vl vu .none->IsPart vl lo->IsPart vu hi->r x lo hi H Q->
  ∃T id,typeLookup (.type T) "__getitem__"=pure (some (.builtin id))/\s.TypeIs v T/\wpAny (model X.prog X.w) X.A (getItem v (.ref sl)) (EP X pins σ Q) X.xe s
def tSl(r:V->Option Int->Option Int->Hp->VK->Prop)(te:TE)(tl th:TO):TE:=λσ H Q=>te σ H λx H1=>tl σ H1 λl H2=>th σ H2 λu H3=>r x l u H3 Q
theorem jF{r:V->Option Int->Option Int->Hp->VK->Prop}(hr:SlR X r)(he:PE X e te)(hl:PO X lo tl)(hu:PO X hi th):PE X (.Subscript e (.Slice lo hi none p2) pos) (tSl r te tl th):=(by apply aj:aa (by
 intro pins s σ H Q I h;refine Subscript_ (jL (he pins s σ H _ I h) λv s1 ⟨x,H1,I1,r1,q1⟩=>?_);refine wpAny_Slice (jL (hl pins s1 σ H1 _ I1 q1) λvl s2 ⟨l,H2,I2,pl,q2⟩=>jL (hu pins s2 σ H2 _ I2 q2) λvu s3 ⟨u,H3,I3,pu,q3⟩=>?_);rw [evalPart_none];refine wpAny_pure ?_;have I4:Inv X pins σ H3 {s3 with heap:=s3.heap.push {cls:=.type "slice",data:=.fields #[vl,vu,.none]}}:=I3.kept (t':=s3.toks) λb ob q=>aA _ q;obtain ⟨T,id,hT,ht,hg⟩:=hr pins {s3 with heap:=s3.heap.push {cls:=.type "slice",data:=.fields #[vl,vu,.none]}} σ H3 x v vl vu l u s3.heap.objs.size Q I4 r1 (Heap.IsSliceOf.new ..) pl pu q3;show wpAny (model X.prog X.w) X.A (subscriptTail e (.Slice lo hi none p2) v (.ref s3.heap.objs.size)) (EP X pins σ Q) X.xe {s3 with heap:=s3.heap.push {cls:=.type "slice",data:=.fields #[vl,vu,.none]}};exact tail_any (ops:=[.ref s3.heap.objs.size,v]) ht hT hg (by with_unfolding_all rfl)))
noncomputable def ym (xs:List V) (lo hi:Option Int):List V:=(xs.drop (HT.sIx xs.length 0 lo)).take (HT.sIx xs.length xs.length hi - HT.sIx xs.length 0 lo)
theorem ae2(xs:List V)(lo hi:Option Int):(ym xs lo hi).length<=xs.length:=by
 unfold ym;rw [bO,cA];omega
end
end L2
namespace L2
open PySem PySem.Spec PyProof.Rows
noncomputable def ixN (n:Nat) (i:Int):Option Nat:=if 0<=i then (if i<n then some i.toNat else none) else if -(n:Int)<=i then some (i+n).toNat else none
noncomputable def atI {α:Type} (xs:List α) (i:Int):Option α:=(ixN xs.length i).bind λj=>xs[j]?
theorem anq{n:Nat}{i:Int}{j:Nat}(h:ixN n i=some j):seqIndex? i n=some j/\j<n/\ -(n:Int)<=i/\i<n:=(by apply aj:aa (by
 unfold ixN at h;by_cases h0:0<=i
 ·rw [if_pos h0] at h;by_cases h1:i<n
  ·rw [if_pos h1] at h;have e:i.toNat=j:=aB h;exact ⟨by rw [seqIndex_of h0 h1,e],by omega,by omega,h1⟩
  ·rw [if_neg h1] at h;cases h
 ·rw [if_neg h0] at h;by_cases h1: -(n:Int)<=i
  ·rw [if_pos h1] at h;have e:(i+n).toNat=j:=aB h;exact ⟨by rw [seqIndex_neg (by omega) h1,e],by omega,h1,by omega⟩
  ·rw [if_neg h1] at h;cases h))
theorem acZ{α:Type}{xs:List α}{i:Int}{v:α}(h:atI xs i=some v):∃j,seqIndex? i xs.length=some j/\xs[j]? =some v/\j<xs.length/\ -(xs.length:Int)<=i/\i<xs.length:=by
 unfold atI at h;cases e:ixN xs.length i with
 |none=>rw [e] at h;cases h
 |some j=>
  rw [e] at h;obtain ⟨h1,h2,h3,h4⟩:=anq e;exact ⟨j,h1,h,h2,h3,h4⟩
theorem fH{α:Type}{xs:List α}{j:Nat}{v:α}(h:xs[j]? =some v):atI xs (j:Int)=some v:=by
 have hj:j<xs.length:=(aQ.mp h).1;have e:ixN xs.length (j:Int)=some j:=by
  unfold ixN;rw [if_pos (by omega),if_pos (by omega)];simp
 unfold atI;rw [e];exact h
def anT(b:Expr):Prop:=∀o i,subscripted b false o i=operate [o,i] (getItem o i)
def IxR(X:Cx)(r:R2):Prop:=
 ∀(value slice:Expr) (pins:List (Addr×Obj)) (s:Shared) (σ:St) (H:Hp) (x y:V) (v u:Value) (Q:VK),Inv X pins σ H s->RelV x v->RelV y u->r x y H Q->
  subscripted slice false v u=operate [v,u] (getItem v u)->wpAny (model X.prog X.w) X.A (subscriptTail value slice v u) (EP X pins σ Q) X.xe s
def MtR(X:Cx)(id:String)(r:V->List V->Hp->VK->Prop):Prop:=
 ∀(pins:List (Addr×Obj)) (s:Shared) (σ:St) (H:Hp) (x:V) (xs:List V) (v:Value) (us:List Value) (Q:VK),Inv X pins σ H s->RelV x v->Vals xs us->r x xs H Q->
  wpAny (model X.prog X.w) X.A (call (.builtin id) (v::us)) (EP X pins σ Q) X.xe s
section
variable {X:Cx} {a b:Expr} {ta tb:TE} {pos:Pos}
theorem iG{r:R2}(hr:IxR X r)(ha:PE X a ta)(hb:PE X b tb)(hs:anT b):PE X (.Subscript a b pos) (tOp r ta tb):=by
 intro pins s σ H Q I h;exact Subscript_ (apP ha hb I h λv u s2 x y H2 I2 rx ry q=>hr a b pins s2 σ H2 x y v u Q I2 rx ry q (hs _ _))
inductive arV(S:List V->Prop)(i:Int)(q:V->Prop):Prop
 |mk (xs:List V) (_:S xs) (v:V) (_:atI xs i=some v) (_:q v)
def atk(K:az):R2:=λx y H Q=>∃p,x= .ref p/\∃i,y= .int i/\arV (cY K H p) i λv=>Q v H
def ati(K:az):R2:=λx y H Q=>∃p,x= .ref p/\∃i,y= .int i/\arV (Ol K H p) i λv=>Q v H
def atj:R2:=λx y H Q=>∃z i c,x= .str z/\y= .int i/\z.length<=sizeLine/\atI z.cps.toList i=some c/\Q (.str ⟨#[c]⟩) H
theorem fP:IxR X (atk X.K):=(by apply aj:aa (by
 intro value slice pins s σ H x y v u Q I rx ry h hs;obtain ⟨p,rfl,i,rfl,xs,hq,z,he,q⟩:=h;cases rx;obtain ⟨t,rfl⟩:=ry;obtain ⟨its,r,pl,hz⟩:=I.list hq;obtain ⟨j,h1,h2,h3,h4,h5⟩:=acZ he;obtain ⟨w,ew,rw'⟩:=r.get h2;have hl:=r.length;have hn:=Yd;have fin:EP X pins σ Q w s:=⟨z,H,I,rw',q⟩;by_cases h0:0<=i
 ·have hj:i.toNat=j:=by
   rw [seqIndex_of h0 h5] at h1;exact aB h1
  exact item_listR pl.isList h0 (by omega) (by rw [hj];simpa using ew) fin hs
 ·have hj:(i+(its.toArray.size:Int)).toNat=j:=by
   rw [seqIndex_neg (by omega) h4] at h1;rw [bN,<-hl];exact aB h1
  exact subscriptTail_builtinR (x:=w) pl.isList.typeIs slot_list_getitem.lookup
   (wpAny_getItem_list_neg (Q:=λr s'=>r=w/\EP X pins σ Q r s') pl.isList (by omega) (by rw [bN]<;>omega) (by omega) (by rw [hj];simpa using ew) ⟨rfl,fin⟩) hs))
theorem agv:IxR X (ati X.K):=(by apply aj:aa (by
 intro value slice pins s σ H x y v u Q I rx ry h hs;obtain ⟨p,rfl,i,rfl,xs,hq,z,he,q⟩:=h;cases rx;obtain ⟨t,rfl⟩:=ry;obtain ⟨its,r,pl,hz⟩:=I.tuple hq;obtain ⟨j,h1,h2,h3,h4,h5⟩:=acZ he;obtain ⟨w,ew,rw'⟩:=r.get h2;have hl:=r.length;have hn:=Yd;have fin:EP X pins σ Q w s:=⟨z,H,I,rw',q⟩;exact subscriptTail_builtinR (x:=w) pl.typeIs slot_tuple_getitem.lookup
  (getItem_tuple (j:=j) (Q:=λr s'=>r=w/\EP X pins σ Q r s') pl (by omega) (by omega) (by rw [bN,<-hl];exact h1) (by simpa using ew) ⟨rfl,fin⟩) hs))
theorem alE:IxR X atj:=(by apply aj:aa (by
 intro value slice pins s σ H x y v u Q I rx ry h hs;obtain ⟨z,i,c,rfl,rfl,hz,he,q⟩:=h;obtain ⟨t,rfl⟩:=rx;obtain ⟨t',rfl⟩:=ry;obtain ⟨j,h1,h2,h3,h4,h5⟩:=acZ he;have hl:z.cps.toList.length=z.length:=by simp [Str.length]
 rw [hl] at h1 h4 h5;have hn:=Yd;exact tail_any (typeIs_str s z t) slot_str_getitem.lookup (getItem_str (c:=c) (by
  have e1:decide (i< -(2^63:Int))=false:=decide_eq_false (by omega);have e2:decide (i>=2^63)=false:=decide_eq_false (by omega);rw [e1,e2,afE]) (by rw [h1];simpa using h2) ⟨.str ⟨#[c]⟩,H,I.tok _,⟨_,rfl⟩,q⟩) hs))
theorem abU(lo hi:Option Int)(n:Nat):(sliceBounds lo hi none n).1=((HT.sIx n 0 lo:Nat):Int)/\(sliceBounds lo hi none n).2.1=((HT.sIx n n hi:Nat):Int)/\(sliceBounds lo hi none n).2.2=1:=(by apply aj:aa (by
 refine ⟨?_,?_,rfl⟩
 ·cases lo with
  |none=>simp [sliceBounds,HT.sIx]
  |some i=>
   simp only [sliceBounds,HT.sIx,JV,show (1:Int)>0 by decide,if_true];by_cases h:i<0
   ·simp only [h,if_true]<;>omega
   ·simp only [h,if_false]<;>omega
 ·cases hi with
  |none=>simp [sliceBounds,HT.sIx]
  |some i=>
   simp only [sliceBounds,HT.sIx,JV,show (1:Int)>0 by decide,if_true];by_cases h:i<0
   ·simp only [h,if_true]<;>omega
   ·simp only [h,if_false]<;>omega))
theorem aab(its:List Value)(lo hi:Option Int):slicePick its.toArray lo hi none=((its.drop (HT.sIx its.length 0 lo)).take (HT.sIx its.length its.length hi - HT.sIx its.length 0 lo)).toArray:=by
 obtain ⟨h1,h2,h3⟩:=abU lo hi its.toArray.size;unfold slicePick;rw [h1,h2,h3];simp only [sliceRange_one,pick_run,bN]<;>rfl
def atf(K:az):V->Option Int->Option Int->Hp->VK->Prop:=λx lo hi H Q=>∃a xs,x= .ref a/\cY K H a xs/\∀p,H p=none->Q (.ref p) (upd H p (.lst (ym xs lo hi)))
theorem lF:SlR X (atf X.K):=(by apply aj:aa (by
 intro pins s σ H x v vl vu lo hi sl Q I rx hs pl pu h;obtain ⟨a,xs,rfl,hx,q⟩:=h;cases rx;obtain ⟨its,r,ht,hz⟩:=I.list hx;have hlen:=r.length;refine ⟨"list",_,slot_list_getitem.lookup,ht.isList.typeIs,?_⟩;refine wpAny_getItem_list_slice ht.isList hs pl pu .none (by simp) ?_ (by rw [bN]<;>omega);rw [aab,<-hlen];refine ⟨.ref s.heap.objs.size,_,I.laid (t':=s.toks) (o:=.lst (ym xs lo hi)) (λb ob q=>aA _ q) (aU _) ?_,rfl,q _ (I.hok.fresh (aU _))⟩;exact ⟨aY (ae2 xs lo hi) hz,_,0,(r.drop (HT.sIx xs.length 0 lo)).take (HT.sIx xs.length xs.length hi - HT.sIx xs.length 0 lo),aR _ rfl⟩))
def JC:V->Bool
 |.non=>true
 |.bl _=>true
 |.int _=>true
 |.str _=>true
 |_=>false
noncomputable def eqV:V->V->Bool
 |.non,.non=>true
 |.bl a,.bl b=>a==b
 |.bl a,.int b=>(if a then 1 else 0)==b
 |.int a,.bl b=>a==(if b then 1 else 0)
 |.int a,.int b=>a==b
 |.str a,.str b=>a==b
 |_,_=>false
theorem apE{A:Around}{s:Shared}{y x:V}{u v:Value}(ry:RelV y u)(rx:RelV x v)(fy:JC y=true)(fx:JC x=true):gD A s u v (eqV y x):=(by apply aj:aa (by
 cases y with
 |non=>
  cases ry;cases x with
  |non=>cases rx;exact gD.same _
  |bl b=>cases rx;exact gD.none_bool b
  |int b=>obtain ⟨t,rfl⟩:=rx;exact gD.none_int b t
  |str b=>obtain ⟨t,rfl⟩:=rx;exact gD.none_str b t
  |_=>exact absurd (show false=true from fx) cu
 |bl a=>
  cases ry;cases x with
  |non=>cases rx;exact gD.bool_none a
  |bl b=>cases rx;exact gD.bool_bool a b
  |int b=>obtain ⟨t,rfl⟩:=rx;exact gD.bool_int a b t
  |str b=>obtain ⟨t,rfl⟩:=rx;exact gD.bool_str a b t
  |_=>exact absurd (show false=true from fx) cu
 |int a=>
  obtain ⟨t',rfl⟩:=ry;cases x with
  |non=>cases rx;exact gD.int_none a t'
  |bl b=>cases rx;exact gD.int_bool a t' b
  |int b=>obtain ⟨t,rfl⟩:=rx;exact gD.int_int a t' b t
  |str b=>obtain ⟨t,rfl⟩:=rx;exact gD.int_str a t' b t
  |_=>exact absurd (show false=true from fx) cu
 |str a=>
  obtain ⟨t',rfl⟩:=ry;cases x with
  |non=>cases rx;exact gD.str_none a t'
  |bl b=>cases rx;exact gD.str_bool a t' b
  |int b=>obtain ⟨t,rfl⟩:=rx;exact gD.str_int a t' b t
  |str b=>obtain ⟨t,rfl⟩:=rx;exact gD.str_str a t' b t
  |_=>exact absurd (show false=true from fx) cu
 |_=>exact absurd (show false=true from fy) cu))
noncomputable def eqU (x:V) (u:Value):Bool:=match u with
 |.none=>eqV .non x
 |.bool b=>eqV (.bl b) x
 |.int i _=>eqV (.int i) x
 |.str z _=>eqV (.str z) x
 |_=>false
theorem acP{x y:V}{u:Value}(r:RelV y u)(f:JC y=true):eqU x u=eqV y x:=by
 cases y with
 |non=>cases r;rfl
 |bl b=>cases r;rfl
 |int i=>obtain ⟨t,rfl⟩:=r;rfl
 |str z=>obtain ⟨t,rfl⟩:=r;rfl
 |_=>exact absurd (show false=true from f) cu
theorem Sd{x:V}:∀{xs:List V} {us:List Value},Vals xs us->xs.all JC=true->us.any (eqU x)=xs.any λy=>eqV y x
 |_,_,.nil,_=>rfl
 |y::xs,u::us,.cons r t,f=>by
  rw [UT,bf] at f;rw [uB,uB,acP r f.1,Sd t f.2]
theorem Fy{A:Around}{s:Shared}{x:V}{v:Value}(rx:RelV x v)(fx:JC x=true):∀{xs:List V} {us:List Value},Vals xs us->xs.all JC=true->∀u∈us,gD A s u v (eqU x u)
 |_,_,.nil,_=>λu hu=>by cases hu
 |y::xs,u::us,.cons r t,f=>λu' hu=>by
  rw [UT,bf] at f;rcases bc.mp hu with rfl | hu
  ·rw [acP r f.1];exact apE r rx f.1 fx
  ·exact Fy rx fx t f.2 u' hu
noncomputable def inV (x:V) (xs:List V):Bool:=xs.any λy=>eqV y x
def rIn(K:az)(neg:Bool):R2:=λx y H Q=>∃p xs,y= .ref p/\(cY K H p xs\/Ol K H p xs)/\JC x=true/\xs.all JC=true/\Q (.bl (if neg then !inV x xs else inV x xs)) H
theorem Ni:Pn X (compareOp .In) (rIn X.K false):=(by apply aj:aa (by
 intro pins s σ H x y v u Q I rx ry h;obtain ⟨p,xs,rfl,hq,fx,fs,q⟩:=h;cases ry;rcases hq with hq | hq
 ·obtain ⟨its,r,pl,hz⟩:=I.list hq;refine SeqAt.in_listAt (eqU x) pl.isList (λw hw=>Fy rx fx r fs w (by simpa using hw)) ⟨.bl _,H,I,rfl,?_⟩;rw [show its.toArray.any (eqU x)=its.any (eqU x) by simp,Sd r fs];exact q
 ·obtain ⟨its,r,pl,hz⟩:=I.tuple hq;refine SeqAt.in_tupleAt (eqU x) pl (λw hw=>Fy rx fx r fs w (by simpa using hw)) ⟨.bl _,H,I,rfl,?_⟩;rw [show its.toArray.any (eqU x)=its.any (eqU x) by simp,Sd r fs];exact q))
theorem vz:Pn X (compareOp .NotIn) (rIn X.K true):=(by apply aj:aa (by
 intro pins s σ H x y v u Q I rx ry h;obtain ⟨p,xs,rfl,hq,fx,fs,q⟩:=h;cases ry;rcases hq with hq | hq
 ·obtain ⟨its,r,pl,hz⟩:=I.list hq;refine SeqAt.notIn_listAt (eqU x) pl.isList (λw hw=>Fy rx fx r fs w (by simpa using hw)) ⟨.bl _,H,I,rfl,?_⟩;rw [show its.toArray.any (eqU x)=its.any (eqU x) by simp,Sd r fs];exact q
 ·obtain ⟨its,r,pl,hz⟩:=I.tuple hq;refine SeqAt.notIn_tupleAt (eqU x) pl (λw hw=>Fy rx fx r fs w (by simpa using hw)) ⟨.bl _,H,I,rfl,?_⟩;rw [show its.toArray.any (eqU x)=its.any (eqU x) by simp,Sd r fs];exact q))
theorem cW:Cq X (.builtin "len") (λxs H Q=>∃p ys,xs=[.ref p]/\(cY X.K H p ys\/Ol X.K H p ys)/\Q (.int ys.length) H):=(by apply aj:aa (by
 intro pins s σ H xs us Q I r h;obtain ⟨p,ys,rfl,hq,q⟩:=h;obtain ⟨u,rfl,rx⟩:=vals1 r;cases rx;have hn:=Yd;rcases hq with hq | hq
 ·obtain ⟨its,r',pl,hz⟩:=I.list hq;have hlen:=r'.length;exact Calls.call_len_list pl.isList (by simp only [bN]<;>omega) ⟨.int ys.length,H,I.tok _,⟨s.toks+1,by rw [bN,hlen]⟩,q⟩
 ·obtain ⟨its,r',pl,hz⟩:=I.tuple hq;have hlen:=r'.length;exact len_tuple pl (by simp only [bN]<;>omega) ⟨.int ys.length,H,I.tok _,⟨s.toks+1,by rw [bN,hlen]⟩,q⟩))
theorem Ie:Cq X (.builtin "len") (λxs H Q=>∃z,xs=[.str z]/\z.length<=sizeLine/\Q (.int z.length) H):=by
 intro pins s σ H xs us Q I r h;obtain ⟨z,rfl,hz,q⟩:=h;obtain ⟨u,rfl,t,rfl⟩:=vals1 r;have hn:=Yd;exact len_str (by omega) ⟨.int z.length,H,I.tok _,⟨_,rfl⟩,q⟩
def tyV(K:az)(T:String)(x:V)(H:Hp):Prop:=match x with
 |.str _=>T="str"
 |.int _=>T="int"
 |.ref p=>(T="list"/\∃xs,cY K H p xs)\/(T="tuple"/\∃o,K.lookup p=some o/\o.cls= .type "tuple"/\o.dict=none)\/
   (T="dict"/\((∃kvs,H p=some (.dK kvs))\/∃kvs,H p=some (.dT kvs)))\/(T="set"/\∃S n,H p=some (.set S n))
 |_=>False
theorem aow{pins:List (Addr×Obj)}{σ:St}{H:Hp}{s:Shared}{T:String}{x:V}{v:Value}(I:Inv X pins σ H s)(r:RelV x v)(ty:tyV X.K T x H):
  s.TypeIs v T/\∀a,v= .ref a->∃ob,s.heap.get? a=some ob/\ob.dict=none:=(by apply aj:aa (by
 cases x with
 |str z=>
  obtain ⟨t,rfl⟩:=r;cases (show T="str" from ty);exact ⟨typeIs_str s z t,λ_ e=>nomatch e⟩
 |int i=>
  obtain ⟨t,rfl⟩:=r;cases (show T="int" from ty);exact ⟨typeIs_int s i t,λ_ e=>nomatch e⟩
 |ref p=>
  cases r;rcases ty with ⟨rfl,xs,hq⟩ | ⟨rfl,o,hk,hc,hd⟩ | ⟨rfl,hk⟩ | ⟨rfl,S,n,hk⟩
  ·obtain ⟨its,_,pl,_⟩:=I.list hq;refine ⟨pl.isList.typeIs,λa e=>?_⟩;cases e;obtain ⟨o,n,e,c,hd,_⟩:=pl;exact ⟨o,e,hd⟩
  ·refine ⟨⟨o,I.kIn p o hk,hc⟩,λa e=>?_⟩;cases e;exact ⟨o,I.kIn _ o hk,hd⟩
  ·have z:∃o,s.heap.get? p=some o/\o.ExactDict:=by
    rcases hk with ⟨kvs,hk⟩ | ⟨kvs,hk⟩
    ·obtain ⟨_,_,_,_,o,_,_,e,ex,_⟩:=I.hok p _ hk;exact ⟨o,e,ex⟩
    ·obtain ⟨_,_,_,_,o,_,_,e,ex,_⟩:=I.hok p _ hk;exact ⟨o,e,ex⟩
   obtain ⟨o,e,ex⟩:=z;refine ⟨⟨o,e,ex.1⟩,λa e2=>?_⟩;cases e2;exact ⟨o,e,ex.2.1⟩
  ·obtain ⟨o,_,_,_,e,ex,_⟩:=I.hok p _ hk;refine ⟨⟨o,e,ex.1⟩,λa e2=>?_⟩;cases e2;exact ⟨o,e,ex.2.1⟩
 |_=>exact gZ ty))
def avS(K:az)(T:String)(r:V->List V->Hp->VK->Prop)(to:TE):TE:=λσ H Q=>to σ H λx H1=>tyV K T x H1/\r x [] H1 Q
def tBM(K:az)(T:String)(r:V->List V->Hp->VK->Prop)(to:TE)(t:TA):TE:=λσ H Q=>to σ H λx H1=>tyV K T x H1/\t σ H1 λxs H2=>r x xs H2 Q
variable {o e:Expr} {es:List Expr} {to:TE} {t:TA} {name:Str} {apos cpos:Pos} {T id:String} {r:V->List V->Hp->VK->Prop}
theorem rM(pa:PlainAttrs T)(slot:Slot T name id)(hty:typeOf (.builtin id)=pure (.type "method_descriptor"))(hm:MtR X id r)(ho:PE X o to)(ha:PA X (e::es) t)(hbase:attributeBase o name X.env (eval o X.env)=eval o X.env:=by rfl)(hfew:((backTo cpos (starEach (e::es) X.env)).all (λx=> !x.1)&&(backToKw cpos (keywordEach [] X.env)).all (λx=>x.1.isSome)
   &&decide ((e::es).length+([]:List Keyword).length+(if ([]:List Keyword).isEmpty then 0 else 1)<30))=true:=by rfl)(hline:(apos.endLine==cpos.line)=true:=by rfl)(hs:starEach (e::es) X.env=(false,eval e X.env)::starEach es X.env:=by rfl)(hplain:(backTo cpos (starEach es X.env)).any (·.1)=false:=by rfl):
  PE X (.Call (.Attribute o name apos) (e::es) [] cpos) (tBM X.K T r to t):=(by apply aj:aa (by
 intro pins s σ H Q I h;refine wpAny_Call_method_late hbase hfew hline rfl (jL (ho pins s σ H _ I h) λv s1 ⟨x,H1,I1,r1,ty,q1⟩=>?_);obtain ⟨h1,h2⟩:=aow I1 r1 ty;refine ⟨T,id,pa,slot,hty,h1,h2,?_⟩;have hA:=ha cpos pins s1 σ H1 _ I1 q1;rw [hs] at hA⊢;refine pR (by show (false || (backTo cpos (starEach es X.env)).any (·.1))=false;rw [hplain]<;>rfl) (rG ?_);exact jL hA λus s2 ⟨vs,H2,I2,r2,q2⟩=>hm pins s2 σ H2 x vs v us Q I2 r1 r2 q2))
end
end L2
namespace L2
open PySem PySem.Spec PyProof.Rows
def MtM(X:Cx)(id:String)(r:V->List V->Hp->VK->Prop):Prop:=
 ∀(pins:List (Addr×Obj)) (s:Shared) (σ:St) (H:Hp) (x:V) (xs:List V) (v:Value) (us:List Value) (Q:VK),Inv X pins σ H s->RelV x v->Vals xs us->r x xs H Q->
  wpAny (model X.prog X.w) X.A (call (.builtin id) (v::us)) (EP X pins σ Q) X.xe s
theorem Vals.one{x:V}{us:List Value}(h:Vals [x] us):∃u,us=[u]/\RelV x u:=by
 cases h with | cons r t=>cases t;exact ⟨_,rfl,r⟩
theorem Vals.rep{xs:List V}{us:List Value}(h:Vals xs us):∀k:Nat,Vals (bx k xs).flatten (bx k us).flatten
 |0=>.nil
 |k+1=>by
  rw [fM,fM,mY,mY];exact Vals.append h (Vals.rep h k)
theorem foldl_rep(its:List Value):∀(k:Nat) (acc:List Value),
  List.foldl (λx1 x2=>x1++x2) acc.toArray (bx k its.toArray)=(acc++(bx k its).flatten).toArray
 |0,acc=>by simp
 |k+1,acc=>by
  have e:acc.toArray++its.toArray=(acc++its).toArray:=by simp
  have e2:(acc++its)++(bx k its).flatten=acc++(bx (k+1) its).flatten:=by
   rw [fM,mY,mZ]
  rw [<-e2,<-foldl_rep its k (acc++its),<-e,fM,Ov]
section
variable {X:Cx} {pins:List (Addr×Obj)} {σ:St} {H:Hp} {s:Shared} {l b:Addr} {xs ys zs:List V}
theorem Inv.aq3{its its':List Value}{n:Nat}{f:Array Value->Array Value}{t':Nat}(I:Inv X pins σ H s)(hH:H l=some (.lst xs))(e:s.heap.get? l=some {cls:=.type "list",data:=.seq its.toArray n})(hf:f its.toArray=its'.toArray)(hv:Vals ys its')(hz:ys.length<=sizeLine):
  Inv X pins σ (upd H l (.lst ys)) {s with heap:=s.heap.update l (zb f),toks:=t'}:=by
 have q:=PySem.IsL.update e f;rw [hf] at q;refine I.write (x:=l) (e:=l) (by rw [hH];exact trivial) (.inl rfl) (λb' u hb hu=>(xP s.heap (zb f) (cO hb)).trans hu) ⟨_,q⟩ ?_;exact ⟨hz,its',_,hv,q⟩
theorem Inv.aq4{its:List Value}{t':Nat}(I:Inv X pins σ H s)(hv:Vals ys its)(hz:ys.length<=sizeLine):
  Inv X pins σ (upd H s.heap.objs.size (.lst ys)) {s with heap:=s.heap.push {cls:=.type "list",data:=.seq its.toArray},toks:=t'}:=
 I.laid (λ_ _ q=>aA _ q) (aU _) ⟨hz,its,0,hv,aR _ rfl⟩
theorem Inv.fresh(I:Inv X pins σ H s):H s.heap.objs.size=none:=I.hok.fresh (aU _)
theorem Inv.ajh(I:Inv X pins σ H s)(hH:H l=some (.lst xs)):xs.length<=sizeLine/\∃(its:List Value) (n:Nat),Vals xs its/\xs.length=its.length/\s.heap.get? l=some {cls:=.type "list",data:=.seq its.toArray n}:=by
 obtain ⟨z,its,n,r,e⟩:=I.hok l _ hH;exact ⟨z,its,n,r,r.length,e⟩
theorem aeq{n:Nat}(h:n<=sizeLine):uC n=false:=by
 unfold uC;exact decide_eq_false (by omega)
end
section
variable {X:Cx}
def am0:V->List V->Hp->VK->Prop:=λx vs H Q=>∃l xs y,x= .ref l/\vs=[y]/\H l=some (.lst xs)/\xs.length<sizeLine/\Q .non (upd H l (.lst (xs++[y])))
theorem uo:MtM X "list.append" am0:=(by apply aj:aa (by
 intro pins s σ H x vs v us Q I rx rv h;obtain ⟨l,xs,y,rfl,rfl,hH,hz,q⟩:=h;cases rx;obtain ⟨u,rfl,ru⟩:=rv.one;obtain ⟨z,its,n,r,hl,e⟩:=I.ajh hH;refine call_meets F.slot_list_append ⟨_,e,rfl⟩ F.entry_list_append (F.args_list_append_2 _ _) (PySem.list_append l its.toArray n u (by rw [bN];omega)) ⟨e,?_⟩;refine ⟨.non,_,I.aq3 (its':=its++[u]) hH e (by simp) (r.append (.cons ru .nil)) ?_,rfl,q⟩;rw [aJ,akj];omega))
def amZ:V->List V->Hp->VK->Prop:=λx vs H Q=>∃l b xs zs,x= .ref l/\vs=[.ref b]/\H l=some (.lst xs)/\H b=some (.lst zs)/\xs.length+zs.length<=sizeLine/\Q .non (upd H l (.lst (xs++zs)))
theorem nA:MtM X "list.extend" amZ:=(by apply aj:aa (by
 intro pins s σ H x vs v us Q I rx rv h;obtain ⟨l,b,xs,zs,rfl,rfl,hH,hB,hz,q⟩:=h;cases rx;obtain ⟨u,rfl,ru⟩:=rv.one;cases ru;obtain ⟨z,its,n,r,hl,e⟩:=I.ajh hH;obtain ⟨z2,its2,n2,r2,hl2,e2⟩:=I.ajh hB;have hsz:its.toArray.size+its2.toArray.size<=sizeLine:=by rw [bN,bN];omega
 have alO:¬(!its.toArray.isEmpty&&uC (its.toArray.size+its2.toArray.size))=true:=by
  rw [aeq hsz,gj];exact cu
 refine call_meets F.slot_list_extend ⟨_,e,rfl⟩ F.entry_list_extend (F.args_list_extend_2 _ _)
  (AutoSeq1.list_extend_list_list_0 l its.toArray n b its2.toArray n2 alO (by rw [bN];omega) (by omega)) ⟨e,e2,?_⟩
 refine ⟨.non,_,I.aq3 (its':=its++its2) hH e (by simp) (r.append r2) ?_,rfl,q⟩;rw [aJ];omega))
def atm:R2:=λx y H Q=>∃l b xs zs,x= .ref l/\y= .ref b/\H l=some (.lst xs)/\H b=some (.lst zs)/\xs.length+zs.length<=sizeLine/\∀p,H p=none->Q (.ref p) (upd H p (.lst (xs++zs)))
theorem qg:Pn X (binaryOp .Add) atm:=(by apply aj:aa (by
 intro pins s σ H x y v u Q I rx ry h;obtain ⟨l,b,xs,zs,rfl,rfl,hH,hB,hz,q⟩:=h;cases rx;cases ry;obtain ⟨z,its,n,r,hl,e⟩:=I.ajh hH;obtain ⟨z2,its2,n2,r2,hl2,e2⟩:=I.ajh hB;refine PySem.P.add_list e e2 ?_ (by rw [bN,bN];omega);have ea:its.toArray++its2.toArray=(its++its2).toArray:=by simp
 rw [ea];exact ⟨.ref _,_,I.aq4 (t':=s.toks) (r.append r2) (by rw [aJ];omega),rfl,q _ I.fresh⟩))
def atg:R2:=λx y H Q=>∃l k xs,x= .ref l/\y= .int k/\H l=some (.lst xs)/\ -(2^63)<=k/\k<2^63/\xs.length*k.toNat<=sizeLine/\
 ∀p,H p=none->Q (.ref p) (upd H p (.lst (bx k.toNat xs).flatten))
theorem len_rep{α:Type}(xs:List α)(k:Nat):(bx k xs).flatten.length=k*xs.length:=by
 induction k with
 |zero=>simp
 |succ k ih=>rw [fM,mY,aJ,ih,Nat.succ_mul,Wt]
theorem XH:Pn X (binaryOp .Mult) atg:=(by apply aj:aa (by
 intro pins s σ H x y v u Q I rx ry h;obtain ⟨l,k,xs,rfl,rfl,hH,h1,h2,hz,q⟩:=h;cases rx;obtain ⟨t,rfl⟩:=ry;obtain ⟨z,its,n,r,hl,e⟩:=I.ajh hH;have hlen:its.toArray.size*k.toNat<=sizeLine:=by rw [bN,<-hl];exact hz
 have auf:¬its.toArray.size*k.toNat>(2^63 - 1)/8:=by
  have:(sizeLine:Nat)<=(2^63 - 1)/8:=by decide
  omega
 have hfit:¬(!Builtin.List.listFitsIndex k)=true:=by
  rw [fitsIndex_both h1 h2];exact cu
 have alO:¬uC (its.toArray.size*k.toNat)=true:=by
  rw [aeq hlen];exact cu
 have hnew:List.foldl (λx1 x2=>x1++x2) #[] (bx (if its.toArray.isEmpty=true then 0 else k.toNat) its.toArray)=(bx k.toNat its).flatten.toArray:=by
  have f0:∀m:Nat,List.foldl (λx1 x2=>x1++x2) #[] (bx m its.toArray)=(bx m its).flatten.toArray:=λm=>by
   have:=foldl_rep its m [];rw [mO] at this;exact this
  rw [f0];cases its with
  |nil=>simp
  |cons a r'=>rw [if_neg (by simp)]
 refine wpAny_binaryOp_repeat_ref (T:="list") (U:="int") (by decide) ⟨_,e,rfl⟩ (λs'=>typeIs_int s' k t) noFill_list_mul F.fills_int_mul F.slot_int_rmul repeat_list F.slot_int_index.lookup
  (call_meets F.slot_int_rmul (typeIs_int s k t) F.entry_int_rmul (F.args_int_rmul_2 _ _) (int___rmul___int_list k t l its.toArray n)
   ⟨e,rfl,⟨_,e,rfl⟩,call_meets F.slot_list_mul ⟨_,e,rfl⟩ F.entry_list_mul (F.args_list_mul_2 _ _) (AutoListH.list___mul___list_int_3 l its.toArray n k t hfit auf alO) ⟨e,?_⟩⟩)
 rw [hnew];exact ⟨.ref _,_,I.aq4 (t':=s.toks) (r.rep k.toNat) (by rw [len_rep,air];exact hz),rfl,q _ I.fresh⟩))
end
end L2
namespace L2
open PySem PySem.Spec PyProof.Rows
theorem Vals.ints:∀{ns:List Int} {us:List Value},Vals (ns.map V.int) us->IntsAre us ns
 |[],us,h=>by
  rw [jE] at h;cases h;exact IntsAre.nil
 |n::ns,us,h=>by
  rw [bu] at h;cases h with
  |cons r t=>
   obtain ⟨k,rfl⟩:=r;exact IntsAre.cons n k (Vals.ints t)
theorem Q3:∀{us:List Value} {ns:List Int},IntsAre us ns->Vals (ns.map V.int) us
 |_,_,.nil=>by rw [jE];exact Paired.nil
 |_,_,.cons n t h=>by rw [bu];exact Paired.cons (show RelV (V.int n) (JR n t) from ⟨t,rfl⟩) (Q3 h)
theorem Vals.bls:∀{bs:List Bool} {us:List Value},Vals (bs.map V.bl) us->us=bs.map vZ
 |[],us,h=>by
  rw [jE] at h;cases h;rfl
 |b::bs,us,h=>by
  rw [bu] at h;cases h with
  |cons r t=>
   cases r;rw [Vals.bls t,bu]
theorem Vals.ak9{a:Addr}{us:List Value}(r:Vals [V.ref a] us):us=[dX a]:=by
 cases r with
 |cons r t=>
  cases t;cases r;rfl
section
variable {prog:Program} {w:World} {A:Around} {E:Value->Shared->Prop} {s:Shared} {l:Addr} {its:List Value} {ns:List Int} {Q:Value->Shared->Prop}
theorem amN(hh:A.handled=none)(hl:s.heap.IsList l its.toArray)(hi:IntsAre its ns)(h:∀h' tk t',(∀b o,s.heap.get? b=some o->h'.get? b=some o)->Q (.int ns.sum t') {s with heap:=h',toks:=tk}):wpAny (model prog w) A (call (.builtin "sum") [.ref l]) Q E s:=by
 obtain ⟨xs,e⟩:=hi.allInts.items;have hn:numsOf (intItems xs).toList=ns:=by rw [<-e];exact hi.numsOf
 rw [nums_intItems] at hn;rw [e] at hl;refine PySem.sum_intListG hh hl λh' tk t' hk=>?_;have:=h h' tk t' hk;rw [preSum_eq,dR (by simp),hn];exact this
theorem ani(hh:A.handled=none)(hl:s.heap.IsList l its.toArray)(hi:IntsAre its ns)(hne:0<ns.length)(h:∀h' tk M t',(∀b o,s.heap.get? b=some o->h'.get? b=some o)->M∈ns->(∀a,a∈ns->a<=M)->Q (.int M t') {s with heap:=h',toks:=tk}):wpAny (model prog w) A (call (.builtin "max") [.ref l]) Q E s:=(by apply aj:aa (by
 obtain ⟨xs,e⟩:=hi.allInts.items;have hn:numsOf (intItems xs).toList=ns:=by rw [<-e];exact hi.numsOf
 rw [nums_intItems] at hn;subst hn;rw [e] at hl;have hsz:0<xs.size:=by simpa using hne
 refine PySem.max_intList hh hl hsz λv h' tk hv hk=>?_;obtain ⟨t,rfl⟩:=intItems_at hv;obtain ⟨h1,h2⟩:=argBest_gt (numAt xs) (xs.size - 1);refine h h' tk _ t hk ?_ λa ha=>?_
 ·rw [numAt_eq];exact PySem.getD_mem (by rw [ao,gb];omega)
 ·obtain ⟨j,hj,rfl⟩:=mem_getD ha;rw [ao,gb] at hj;rw [<-numAt_eq];exact h2 j (by omega)))
end
section
variable {X:Cx}
def ate(K:az):List V->Hp->VK->Prop:=λvs H Q=>∃(a:Addr) (ns:List Int),vs=[V.ref a]/\cY K H a (ns.map V.int)/\Q (.int ns.sum) H
def ath(K:az):List V->Hp->VK->Prop:=λvs H Q=>∃(a:Addr) (ns:List Int),vs=[V.ref a]/\cY K H a (ns.map V.int)/\0<ns.length/\∀m,m∈ns->(∀y,y∈ns->y<=m)->Q (.int m) H
theorem apM(hc:X.calm=true):Cq X (.builtin "sum") (ate X.K):=by
 intro pins s σ H vs us Q I r h;obtain ⟨a,ns,rfl,hs,q⟩:=h;obtain ⟨its,rv,hl,_⟩:=I.list hs;rw [Vals.ak9 r];exact amN (I.ok.hd hc) hl.isList rv.ints λh' tk t' hk=>⟨.int _,H,I.kept hk,⟨_,rfl⟩,q⟩
theorem ami(hc:X.calm=true):Cq X (.builtin "max") (ath X.K):=by
 intro pins s σ H vs us Q I r h;obtain ⟨a,ns,rfl,hs,hne,q⟩:=h;obtain ⟨its,rv,hl,_⟩:=I.list hs;rw [Vals.ak9 r];exact ani (I.ok.hd hc) hl.isList rv.ints hne λh' tk m t' hk h1 h2=>⟨.int _,H,I.kept hk,⟨_,rfl⟩,q m h1 h2⟩
end
section
variable {X:Cx}
theorem ah7{ys:List V}(f:ys.all JC=true){j:Nat}{z:V}(h:ys[j]? =some z):JC z=true:=dH.mp f z (aM h)
end
theorem aeI{prog:Program}{w:World}{A:Around}{E:Value->Shared->Prop}{s:Shared}{l:Addr}{items:Array Value}{Q:Value->Shared->Prop}(hl:s.heap.IsList l items)(h:∀s₂:Shared,s₂={s with heap:=s.heap.push {cls:=.type "list_iterator",data:=.fields #[.ref l,.int 0 0]}}->
   (s₂.heap.IsListIter s.heap.objs.size l 0/\s₂.heap.IsList l items)->l≠s.heap.objs.size->Q (.ref s.heap.objs.size) s₂):wpAny (model prog w) A (pyIter (.ref l)) Q E s:=by
 have hlt:l<s.heap.objs.size:=by obtain ⟨_,e,_⟩:=hl;exact aZ e
 exact wpAny_pyIter_list hl (h _ rfl ⟨⟨_,aR _ rfl,rfl,rfl⟩,hl.push _⟩ (b8 hlt))
theorem U3{prog:Program}{w:World}{A:Around}{bs:List Bool}{its:List Value}(e:its=bs.map vZ):
  TruthOf prog w A (λi v=>its.toArray[i]? =some v) (λi=>bs.getD i false):=λi v s Q E hv hq=>by
 have hv':its[i]? =some v:=by simpa using hv
 rw [e,aW] at hv';obtain ⟨b,hb,rfl⟩:=dO.mp hv';have hg:bs.getD i false=b:=by rw [cC,hb]<;>rfl
 have hq':Q (bs.getD i false) s:=hq;rw [hg] at hq';exact wpAny_truthy_bool hq'
theorem any_range:∀bs:List Bool,(iR bs.length).any (λi=>bs.getD i false)=bs.any id
 |[]=>rfl
 |b::bs=>by
  rw [aH,Od,uB,Wv,uB,<-any_range bs]
  all_goals rfl
theorem all_range:∀bs:List Bool,(iR bs.length).all (λi=>bs.getD i false)=bs.all id
 |[]=>rfl
 |b::bs=>by
  rw [aH,Od,UT,tR,UT,<-all_range bs]
  all_goals rfl
section
variable {X:Cx}
def atn(K:az):List V->Hp->VK->Prop:=λvs H Q=>∃(a:Addr) (bs:List Bool),vs=[V.ref a]/\cY K H a (bs.map V.bl)/\Q (.bl (bs.any id)) H
def ato(K:az):List V->Hp->VK->Prop:=λvs H Q=>∃(a:Addr) (bs:List Bool),vs=[V.ref a]/\cY K H a (bs.map V.bl)/\Q (.bl (bs.all id)) H
theorem amj(hc:X.calm=true):Cq X (.builtin "any") (atn X.K):=(by apply aj:aa (by
 intro pins s σ H vs us Q I r h;obtain ⟨a,bs,rfl,hs,q⟩:=h;obtain ⟨its,rv,hl,_⟩:=I.list hs;rw [Vals.ak9 r];have hb:=rv.bls;refine call_any_walk (aeI hl.isList λs₂ e2 st hne=>?_);subst e2;refine ⟨_,_,_,_,_,_,_,rfl,Walks.list (A:=X.A.in1) (I.ok.hd hc) _ a hne its.toArray,st,U3 hb,λh' tk hk=>?_⟩;refine ⟨.bl _,H,I.kept λb o eo=>hk b o (λhmem=>?_) (aA _ eo),?_,q⟩
 ·rcases bc.mp hmem with e1 | hmem
  ·exact absurd (e1▸aZ eo) (je _)
  ·cases hmem
 ·show vZ _=vZ _;rw [<-any_range,hb,bN,ao]))
theorem Y4(hc:X.calm=true):Cq X (.builtin "all") (ato X.K):=(by apply aj:aa (by
 intro pins s σ H vs us Q I r h;obtain ⟨a,bs,rfl,hs,q⟩:=h;obtain ⟨its,rv,hl,_⟩:=I.list hs;rw [Vals.ak9 r];have hb:=rv.bls;refine call_all_walk (aeI hl.isList λs₂ e2 st hne=>?_);subst e2;refine ⟨_,_,_,_,_,_,_,rfl,Walks.list (A:=X.A.in1) (I.ok.hd hc) _ a hne its.toArray,st,U3 hb,λh' tk hk=>?_⟩;refine ⟨.bl _,H,I.kept λb o eo=>hk b o (λhmem=>?_) (aA _ eo),?_,q⟩
 ·rcases bc.mp hmem with e1 | hmem
  ·exact absurd (e1▸aZ eo) (je _)
  ·cases hmem
 ·show vZ _=vZ _;rw [<-all_range,hb,bN,ao]))
end
mutual
inductive Dp(K:az)(H:Hp):V->PyData->Prop
 |non:Dp K H .non .none
 |bl (b:Bool):Dp K H (.bl b) (.bool b)
 |int (i:Int):Dp K H (.int i) (.int i)
 |str (x:Str):Dp K H (.str x) (.str x)
 |lst {a:Addr} {xs:List V} {ds:List PyData}:cY K H a xs->Ms K H xs ds->Dp K H (.ref a) (.list ds)
 |tup {a:Addr} {xs:List V} {ds:List PyData}:Ol K H a xs->Ms K H xs ds->Dp K H (.ref a) (.tuple ds)
inductive Ms(K:az)(H:Hp):List V->List PyData->Prop
 |nil:Ms K H [] []
 |cons {v:V} {vs:List V} {d:PyData} {ds:List PyData}:Dp K H v d->Ms K H vs ds->Ms K H (v::vs) (d::ds)
end
section
variable {X:Cx} {pins:List (Addr×Obj)} {σ:St} {H:Hp} {s:Shared}
mutual
theorem Dp.reads(I:Inv X pins σ H s):∀(d:PyData) (v:V) (u:Value),Dp X.K H v d->RelV v u->∃as,Reads s.heap u d as
 |.none,_,_,h,r=>by
  cases h;cases r;exact ⟨_,Reads.none⟩
 |.bool b,_,_,h,r=>by
  cases h;cases r;exact ⟨_,Reads.bool b⟩
 |.int i,_,_,h,r=>by
  cases h;obtain ⟨t,rfl⟩:=r;exact ⟨_,Reads.int i t⟩
 |.str x,_,_,h,r=>by
  cases h;obtain ⟨t,rfl⟩:=r;exact ⟨_,Reads.str x t⟩
 |.list ds,_,_,h,r=>by
  cases h with
  |lst hs ha=>
   cases r;obtain ⟨its,rv,⟨o,n,ho,hc,_,hd⟩,_⟩:=I.list hs;obtain ⟨as,hr⟩:=Dp.readsAll I ds _ its ha rv;exact ⟨_,Reads.list ho hc hd hr⟩
 |.tuple ds,_,_,h,r=>by
  cases h with
  |tup hs ha=>
   cases r;obtain ⟨its,rv,⟨o,ho,hc,n,hd⟩,_⟩:=I.tuple hs;obtain ⟨as,hr⟩:=Dp.readsAll I ds _ its ha rv;exact ⟨_,Reads.tuple ho hc hd hr⟩
 |.dict _,_,_,h,_=>by cases h
theorem Dp.readsAll(I:Inv X pins σ H s):∀(ds:List PyData) (vs:List V) (us:List Value),Ms X.K H vs ds->Vals vs us->∃as,ReadsAll s.heap us ds as
 |[],_,_,h,r=>by
  cases h;cases r;exact ⟨_,ReadsAll.nil⟩
 |d::ds,_,_,h,r=>by
  cases h with
  |cons h1 h2=>
   cases r with
   |cons r1 r2=>
    obtain ⟨as,q1⟩:=Dp.reads I d _ _ h1 r1;obtain ⟨bs,q2⟩:=Dp.readsAll I ds _ _ h2 r2;exact ⟨_,ReadsAll.cons q1 q2⟩
end
end
section
variable {X:Cx}
def atl(K:az):R2:=λx y H Q=>∃d e,Dp K H x d/\Dp K H y e/\mW d=true/\mW e=true/\Q (.bl (iQ d e)) H
def aqN(K:az):R2:=λx y H Q=>∃d e,Dp K H x d/\Dp K H y e/\mW d=true/\mW e=true/\Q (.bl (!PyData.eqv d e)) H
theorem af4(hu:X.A.units+64<cLine):Pn X (compareOp .Eq) (atl X.K):=by
 intro pins s σ H x y v u Q I rx ry h;obtain ⟨d,e,hd,he,sd,se,q⟩:=h;obtain ⟨as,r1⟩:=Dp.reads I d x v hd rx;obtain ⟨bs,r2⟩:=Dp.reads I e y u he ry;exact SeqAt.compareEq_shaped r1 r2 sd se hu ⟨.bl _,H,I,rfl,q⟩
theorem aoY(hu:X.A.units+64<cLine):Pn X (compareOp .NotEq) (aqN X.K):=by
 intro pins s σ H x y v u Q I rx ry h;obtain ⟨d,e,hd,he,sd,se,q⟩:=h;obtain ⟨as,r1⟩:=Dp.reads I d x v hd rx;obtain ⟨bs,r2⟩:=Dp.reads I e y u he ry;exact SeqAt.compareNe_shaped r1 r2 sd se hu ⟨.bl _,H,I,rfl,q⟩
end
end L2
namespace L2
open PySem PySem.Spec PyProof.Rows
abbrev amt(h:Heap)(c:Addr)(v:Option Value):Prop:=h.IsCell c v
noncomputable def atd (scope sc:Scope):Scope:=
 {scope with names:=scope.names.map λ(n,k)=>if (k== .free&&sc.kind== .function&&sc.names.lookup n==some .cell) then (n,.cell) else (n,k)}
noncomputable def jM (cells:List (Str×Addr)):List (Str×NameKind)->List (Str×Addr)->List (Str×Addr)
 |[],acc=>acc
 |(n,k)::r,acc=>if k== .free then jM cells r ((n,(cells.lookup n).getD 0)::acc) else jM cells r acc
theorem R4(env:Env)(f:Str×NameKind->List (Str×Addr)->Sem (ForInStep (List (Str×Addr))))(hf:∀n k c,f (n,k) c=if k== .free then (do let a <-cellOf env n;pure (.yield ((n,a)::c))) else pure (.yield c)):
  ∀(names:List (Str×NameKind)) (acc:List (Str×Addr)),(∀y∈names,y.2= .free->∃c,env.cells.lookup y.1=some c)->forIn names acc f=pure (jM env.cells names acc)
 |[],acc,_=>by rw [QW];rfl
 |(n,k)::r,acc,h=>by
  rw [aby,hf];have ih:=λacc=>R4 env f hf r acc λy hy=>h y (aV _ hy);unfold jM;by_cases hk:(k==Ae)=true
  ·rw [if_pos hk,if_pos hk];obtain ⟨c,hc⟩:=h (n,k) bz (by simpa using hk);have e:cellOf env n=pure c:=by unfold cellOf;rw [hc]
   rw [e];have e2:(env.cells.lookup n).getD 0=c:=by rw [hc];rfl
   rw [e2];exact ih _
  ·rw [if_neg hk,if_neg hk];exact ih _
theorem agP{scope:Scope}{env:Env}(h:∀y∈scope.names,y.2= .free->∃c,env.cells.lookup y.1=some c):closureFor scope env=pure (jM env.cells scope.names []):=by
 simp only [closureFor];rw [R4 env _ (λn k c=>rfl) scope.names [] h];rfl
theorem mem_lookup{α:Type}:∀{l:List (Str×α)} {n:Str} {c:α},(n,c)∈l->∃c',l.lookup n=some c'
 |(k,v)::r,n,c,h=>by
  rw [iC];cases hb:n==k with
  |true=>exact ⟨_,rfl⟩
  |false=>
   rcases bc.mp h with e | h
   ·cases e;simp at hb
   ·exact mem_lookup h
theorem Di{cells:List (Str×Addr)}:∀{names:List (Str×NameKind)} {acc:List (Str×Addr)} {n:Str} {c:Addr},(n,c)∈jM cells names acc->(n,c)∈acc\/((n,.free)∈names/\c=(cells.lookup n).getD 0)
 |[],_,_,_,h=>.inl h
 |(m,k)::r,acc,n,c,h=>by
  unfold jM at h;split at h
  ·rename_i hk;have hk:k= .free:=by simpa using hk
   rcases Di h with h | ⟨h1,h2⟩
   ·rcases bc.mp h with e | h
    ·cases e;exact .inr ⟨hk▸bz,rfl⟩
    ·exact .inl h
   ·exact .inr ⟨aV _ h1,h2⟩
  ·rcases Di h with h | ⟨h1,h2⟩
   ·exact .inl h
   ·exact .inr ⟨aV _ h1,h2⟩
theorem Lq{cells:List (Str×Addr)}:∀{names:List (Str×NameKind)} {acc:List (Str×Addr)} {p:Str×Addr},p∈acc->p∈jM cells names acc
 |[],_,_,h=>h
 |(m,k)::r,acc,p,h=>by
  unfold jM;split
  ·exact Lq (aV _ h)
  ·exact Lq h
theorem Lp{cells:List (Str×Addr)}:∀{names:List (Str×NameKind)} {acc:List (Str×Addr)} {n:Str},(n,.free)∈names->(n,(cells.lookup n).getD 0)∈jM cells names acc
 |(m,k)::r,acc,n,h=>by
  unfold jM;rcases bc.mp h with e | h
  ·cases e;exact Lq bz
  ·split
   ·exact Lp h
   ·exact Lp h
theorem Gh:∀{names:List (Str×NameKind)} {h:Heap} {acc:List (Str×Addr)} {x:Str} {c:Addr},(x,c)∈cellsFrom h.objs.size names acc->
  (x,c)∈acc\/((x,.cell)∈names/\h.objs.size<=c/\amt (pushCells h names) c none)
 |[],_,_,_,_,h=>.inl h
 |(n,k)::r,h,acc,x,c,hm=>by
  unfold cellsFrom at hm;unfold pushCells;split at hm
  ·rename_i hk;rw [if_pos hk];have hk:k= .cell:=by simpa using hk
   rw [<-cQ h {cls:=.type "cell",data:=.cell none}] at hm;rcases Gh hm with hm | ⟨h1,h2,h3⟩
   ·rcases bc.mp hm with e | hm
    ·cases e;exact .inr ⟨hk▸bz,aU _,_,pushCells_keeps r _ _ _ (aR _ rfl),rfl⟩
    ·exact .inl hm
   ·rw [cQ] at h2;exact .inr ⟨aV _ h1,Jh h2,h3⟩
  ·rename_i hk;rw [if_neg hk];rcases Gh hm with hm | ⟨h1,h2,h3⟩
   ·exact .inl hm
   ·exact .inr ⟨aV _ h1,h2,h3⟩
theorem NZ:∀{names:List (Str×NameKind)} {n:Nat} {acc:List (Str×Addr)} {p:Str×Addr},p∈acc->p∈cellsFrom n names acc
 |[],_,_,_,h=>h
 |(m,k)::r,n,acc,p,h=>by
  unfold cellsFrom;split
  ·exact NZ (aV _ h)
  ·exact NZ h
theorem Um:∀{names:List (Str×NameKind)} {n:Nat} {acc:List (Str×Addr)} {x:Str},(x,.cell)∈names->∃c,(x,c)∈cellsFrom n names acc
 |(m,k)::r,n,acc,x,h=>by
  unfold cellsFrom;rcases bc.mp h with e | h
  ·cases e;exact ⟨n,NZ bz⟩
  ·split
   ·exact Um h
   ·exact Um h
theorem Ul:∀{names:List (Str×NameKind)} {h:Heap} {acc:List (Str×Addr)} {x y:Str} {c:Addr},(∀p∈acc,p.2<h.objs.size)->(∀x y c,(x,c)∈acc->(y,c)∈acc->x=y)->
  (x,c)∈cellsFrom h.objs.size names acc->(y,c)∈cellsFrom h.objs.size names acc->x=y
 |[],_,_,_,_,_,_,hi,h1,h2=>hi _ _ _ h1 h2
 |(n,k)::r,h,acc,x,y,c,hl,hi,h1,h2=>by
  unfold cellsFrom at h1 h2;split at h1
  ·rename_i hk;rw [if_pos hk] at h2;rw [<-cQ h {cls:=.type "cell",data:=.cell none}] at h1 h2;refine Ul (h:=h.push _) (λp hp=>?_) (λx y c a b=>?_) h1 h2
   ·rw [cQ];rcases bc.mp hp with rfl | hp
    ·exact jY _
    ·exact jD (hl p hp)
   ·rcases bc.mp a with e | a<;>rcases bc.mp b with e' | b
    ·cases e;cases e';rfl
    ·cases e;exact absurd (hl _ b) (je _)
    ·cases e';exact absurd (hl _ a) (je _)
    ·exact hi _ _ _ a b
  ·rename_i hk;rw [if_neg hk] at h2;exact Ul hl hi h1 h2
theorem aeu{M:Model}{A:Around}{E:Value->Shared->Prop}{s:Shared}{scope:Scope}{globals:Addr}{closure:List (Str×Addr)}{qual:Str}{func:Option Addr}{code:Value}{around:Env}{builtins:Addr}{Q:Env->Shared->Prop}(h:Q (newEnv scope s.heap.objs.size globals (cellsFrom (s.heap.objs.size+1) scope.names closure) qual func code (some around) builtins)
   {s with heap:=pushCells (s.heap.push {cls:=.type "dict",data:=.dict #[]}) scope.names}):
  wpAny M A (newFunctionEnv scope globals closure [] qual func code (some around) builtins) Q E s:=(by apply aj:aa (by
 simp only [newFunctionEnv,gG,if_true];refine wpAny_bind (wpAny_alloc ?_);refine wpAny_bind (wpAny_layCells _ (λn k c=>rfl) scope.names closure _ _ ?_);rw [show ({s with heap:=s.heap.push {cls:=.type "dict",data:=.dict #[]}}:Shared).heap.objs.size=s.heap.objs.size+1 from cQ ..];rw [QW];exact wpAny_bind (wpAny_pure (wpAny_pure h))))
theorem KJ{sc:Scope}:∀{names:List (Str×NameKind)} {x:Str} {k:NameKind},
  (names.map λ(n,k)=>if (k==Ae&&sc.kind== .function&&sc.names.lookup n==some .cell) then (n,afy) else (n,k)).lookup x=some k->
  ∃k',names.lookup x=some k'/\(k=k'\/(k'= .free/\k= .cell))
 |[],_,_,h=>by simp at h
 |(n,k₀)::r,x,k,h=>by
  have ih:= @KJ sc r x k;have h':wk x ((if (k₀==Ae&&sc.kind== .function&&sc.names.lookup n==some .cell)=true then (n,afy) else (n,k₀))::(r.map _))=some k:=h;cases hx:x==n with
  |true=>
   simp only [iC,hx];by_cases hc:(k₀==Ae&&sc.kind== .function&&sc.names.lookup n==some .cell)=true
   ·rw [if_pos hc] at h';simp only [iC,hx] at h';cases h';simp only [bf,beq_iff_eq] at hc;exact ⟨k₀,rfl,.inr ⟨hc.1.1,rfl⟩⟩
   ·rw [if_neg hc] at h';simp only [iC,hx] at h';cases h';exact ⟨_,rfl,.inl rfl⟩
  |false=>
   simp only [iC,hx];by_cases hc:(k₀==Ae&&sc.kind== .function&&sc.names.lookup n==some .cell)=true
   ·rw [if_pos hc] at h';simp only [iC,hx] at h';exact ih h'
   ·rw [if_neg hc] at h';simp only [iC,hx] at h';exact ih h'
structure afk(N:List Str)(sc scope:Scope)(own:List (Str×Nat)):Prop where
 kind:scope.kind= .function
 uniq:∀y∈scope.names,scope.names.lookup y.1=some y.2
 ix:∀p∈own,N[p.2]? =some p.1
 free:∀y∈scope.names,y.2= .free->sc.names.lookup y.1=some .cell\/sc.names.lookup y.1=some .free
 own:∀y∈scope.names,y.2= .local\/y.2= .cell->y.1∈own.map (·.1)\/y.1∉N
noncomputable def wipe (σ:St):List Nat->St
 |[]=>σ
 |v::vs=>(wipe σ vs).set v none
theorem J2(σ:St):∀vs:List Nat,(wipe σ vs).length=σ.length
 |[]=>rfl
 |v::vs=>by unfold wipe;rw [pX,J2 σ vs]
theorem Te{σ:St}{i:Nat}{x:V}:∀{vs:List Nat},(wipe σ vs)[i]? =some (some x)->σ[i]? =some (some x)/\i∉vs
 |[],h=>⟨h,by simp⟩
 |v::vs,h=>by
  unfold wipe at h;by_cases hi:v=i
  ·subst hi;by_cases hv:v<(wipe σ vs).length
   ·rw [fQ hv] at h;cases h
   ·rw [gY (by simpa using hv)] at h;cases h
  ·rw [fV hi] at h;obtain ⟨h1,h2⟩:=Te h;exact ⟨h1,by simp only [bc,not_or];exact ⟨λe=>hi e.symm,h2⟩⟩
noncomputable abbrev Cx.blk (X:Cx) (s:Shared) (H:Hp) (scope:Scope) (cenv:Env) (fp:List Addr):Cx:={X with s_0:=s,H_0:=H,env:=cenv,outer:=X.stack,ex:=fp,fn:=λx=>scope.names.lookup x==some .cell,pn:=[],xe:=λ_ _=>False}
section
variable {X:Cx} {pins:List (Addr×Obj)} {σ:St} {H:Hp} {s:Shared}
theorem ae5{scope:Scope}{own:List (Str×Nat)}{fp:List Addr}(I:Inv X pins σ H s)(ok:afk X.N X.env.scope scope own)(hN:X.N.Nodup)(hfp:∀b∈fp,V6 X pins H b/\b<s.heap.objs.size):
  Inv (X.blk s H scope (compEnvC scope (cellsFrom (s.heap.objs.size+1) scope.names (jM X.env.cells scope.names [])) s.heap.objs.size X.env) fp) [] (wipe σ (own.map (·.2))) H {s with heap:=pushCells (s.heap.push {cls:=.type "dict",data:=.dict #[]}) scope.names}:=(by apply aj:aa (by
 have hfree:∀y∈scope.names,y.2= .free->∃c,X.env.cells.lookup y.1=some c:=λy hy e=>by
  rcases ok.free y hy e with k | k
  ·exact I.ok.has _ (.inl k)
  ·exact I.ok.has _ (.inr k)
 generalize aeQ:compEnvC scope (cellsFrom (s.heap.objs.size+1) scope.names (jM X.env.cells scope.names [])) s.heap.objs.size X.env=cenv;have kp:∀b o,s.heap.get? b=some o->(pushCells (s.heap.push {cls:=.type "dict",data:=.dict #[]}) scope.names).get? b=some o:=λb o e=>pushCells_keeps _ _ _ _ (aA _ e);have hL:cenv.locals=s.heap.objs.size:=by rw [<-aeQ];rfl
 have hcl:cenv.cells=cellsFrom (s.heap.objs.size+1) scope.names (jM X.env.cells scope.names []):=by rw [<-aeQ];rfl
 have hsc:cenv.scope=atd scope X.env.scope:=by rw [<-aeQ];rfl
 rw [<-cQ s.heap {cls:=.type "dict",data:=.dict #[]}] at hcl;have cm:∀{y c},(y,c)∈jM X.env.cells scope.names []->X.env.cells.lookup y=some c/\c<s.heap.objs.size:=λ{y c} hm=>by
  rcases Di hm with hm | ⟨h1,rfl⟩
  ·cases hm
  ·obtain ⟨c,hc⟩:=hfree _ h1 rfl;rw [hc];obtain ⟨w,z⟩:=I.cell _ _ hc;exact ⟨rfl,z.lt⟩
 have mem:∀{y c},cenv.cells.lookup y=some c->(X.env.cells.lookup y=some c/\c<s.heap.objs.size)\/(s.heap.objs.size+1<=c/\amt (pushCells (s.heap.push {cls:=.type "dict",data:=.dict #[]}) scope.names) c none):=λ{y c} e=>by
  rw [hcl] at e;rcases Gh (dY e) with hm | ⟨_,h2,h3⟩
  ·exact .inl (cm hm)
  ·rw [cQ] at h2;exact .inr ⟨h2,h3⟩
 have look:∀{y},scope.names.lookup y=some .free->∃c,cenv.cells.lookup y=some c/\X.env.cells.lookup y=some c:=λ{y} hl=>by
  have hy:(y,Ae)∈scope.names:=dY hl;obtain ⟨c',e'⟩:=mem_lookup (NZ (names:=scope.names) (n:=(s.heap.push {cls:=.type "dict",data:=.dict #[]}).objs.size) (Lp (cells:=X.env.cells) (acc:=[]) hy));rw [<-hcl] at e';refine ⟨c',e',?_⟩;rw [hcl] at e';rcases Gh (dY e') with hm | ⟨h1,_,_⟩
  ·exact (cm hm).1
  ·have:=ok.uniq _ h1;rw [hl] at this;cases this
 have okB:(X.blk s H scope cenv fp).Ok:=by
  refine ⟨I.ok.mod,by show cenv.scope.kind=_;rw [hsc];exact ok.kind,by show cenv.globals=_;rw [<-aeQ];exact I.ok.glob,by show cenv.builtins=_;rw [<-aeQ];exact I.ok.blt,by show s.heap.objs.size<=cenv.locals;rw [hL];exact aU _,
   λy z c e1 e2=>?_,λy hy=>?_,λy c z e=>?_,I.ok.hd,I.ok.frames,.inl rfl,λb hb=>⟨?_,λy c e z=>?_⟩,I.bs,aY I.ok.bsz I.sz,λb o e hb=>?_,λb hb z=>?_,I.stack,I.ahy⟩
  ·have e1:cenv.cells.lookup y=some c:=e1;have e2:cenv.cells.lookup z=some c:=e2;rw [hcl] at e1 e2;refine Ul (λp hp=>?_) (λy z c a b=>I.ok.inj y z c (cm a).1 (cm b).1) (dY e1) (dY e2);rw [cQ];exact jD (cm (y:=p.1) (c:=p.2) hp).2
  ·show ∃c,cenv.cells.lookup y=some c;have key:∀k,cenv.kindOf y=some k->(k= .cell\/k= .free)->∃c,cenv.cells.lookup y=some c:=λk hk hk'=>by
    unfold Env.kindOf at hk;rw [hsc] at hk;obtain ⟨k',e,r⟩:=KJ hk;have:k'= .cell\/k'= .free:=by
     rcases r with rfl | ⟨rfl,_⟩
     ·exact hk'
     ·exact .inr rfl
    rcases this with rfl | rfl
    ·obtain ⟨c,hm⟩:=Um (n:=(s.heap.push {cls:=.type "dict",data:=.dict #[]}).objs.size) (acc:=jM X.env.cells scope.names []) (dY e);obtain ⟨c',e'⟩:=mem_lookup hm;exact ⟨c',by rw [hcl];exact e'⟩
    ·obtain ⟨c,h1,_⟩:=look e;exact ⟨c,h1⟩
   rcases hy with hy | hy
   ·exact key _ hy (.inl rfl)
   ·exact key _ hy (.inr rfl)
  ·have z:(scope.names.lookup y==some afy)=true:=z;have z:scope.names.lookup y=some .cell:=by simpa using z
   have e:cenv.cells.lookup y=some c:=e;rw [hcl] at e;rcases Gh (dY e) with hm | ⟨_,h2,_⟩
   ·rcases Di hm with hm | ⟨h1,_⟩
    ·cases hm
    ·have q:=ok.uniq _ h1;rw [z] at q;cases q
   ·rw [cQ] at h2;exact Jh h2
  ·show b≠cenv.locals;rw [hL];exact b8 (hfp b hb).2
  ·have e:cenv.cells.lookup y=some c:=e;rcases mem e with ⟨h1,_⟩ | ⟨h1,_⟩
   ·exact (hfp b hb).1.2.2.2.2.1 y c h1 z
   ·have h2:s.heap.objs.size+1<=b:=by rw [<-z];exact h1
    exact absurd (cM (hfp b hb).2 (Jh h2)) (je _)
  ·rcases (hfp b hb).1.2.2.2.1 with z | z
   ·exact I.ok.alj b o e z
   ·exact absurd (cM (aZ e) (aY I.ok.bsz z)) (je _)
  ·rcases bc.mp (I.afO b z) with z | z
   ·exact (hfp b hb).1.2.1 z
   ·exact (hfp b hb).1.2.2.1 z
 refine ⟨okB,rfl,I.bare,Un.kept kp,⟨λ_=>none,?_,λi y av e1 e2 e3=>?_⟩,λy c e=>?_,?_,λy c e=>?_,λp hp=>?_,I.hok.kept kp,by rw [J2];exact I.len⟩
 ·show Heap.Ns _ cenv.locals _;rw [hL];exact Heap.Ns.keeps (Heap.Ns.new ..) λb o e=>pushCells_keeps _ _ _ _ e
 ·obtain ⟨e2,hne⟩:=Te e2;have hfr:scope.names.lookup y=some .free/\(cenv.kindOf y=some .cell\/cenv.kindOf y=some .free):=by
   have key:∀k,cenv.scope.names.lookup y=some k->k= .local\/k= .cell\/k= .free->scope.names.lookup y=some .free/\(cenv.kindOf y=some .cell\/cenv.kindOf y=some .free):=λk hk hk'=>by
    have hk0:=hk;rw [hsc] at hk;obtain ⟨k',e,r⟩:=KJ hk;have no:¬(k'= .local\/k'= .cell):=λhh=>by
     rcases ok.own _ (dY e) hh with e' | e'
     ·obtain ⟨p,hp,hpy⟩:=cF.mp e';have e3:=ok.ix p hp;have:p.1=y:=hpy;rw [this] at e3;exact hne (cF.mpr ⟨p,hp,X4 hN e3 e1⟩)
     ·exact e' (aM e1)
    rcases r with rfl | ⟨rfl,rfl⟩
    ·rcases hk' with rfl | rfl | rfl
     ·exact absurd (.inl rfl) no
     ·exact absurd (.inr rfl) no
     ·exact ⟨e,.inr hk0⟩
    ·exact ⟨e,.inl hk0⟩
   have e3:Vis cenv.scope y:=e3;rcases e3 with e3 | e3 | e3
   ·exact key _ e3 (.inl rfl)
   ·exact key _ e3 (.inr (.inl rfl))
   ·exact key _ e3 (.inr (.inr rfl))
  obtain ⟨m,hn,hl⟩:=I.loc;have atU:Vis X.env.scope y:=(ok.free _ (dY hfr.1) rfl).elim (λk=>.inr (.inl k)) (λk=>.inr (.inr k));obtain ⟨w,r,q⟩:=hl i y av e1 e2 atU;refine ⟨w,r,.inr ⟨hfr.2,?_⟩⟩;obtain ⟨c,h1,h2⟩:=look hfr.1;rcases q with ⟨k,_⟩ | ⟨_,c',e',z⟩
  ·have k:X.env.scope.names.lookup y=some .local:=k;rcases ok.free _ (dY hfr.1) rfl with k' | k'<;>rw [show X.env.scope.names.lookup y=_ from k'] at k<;>cases k
  ·rw [h2] at e';cases e';exact ⟨c,h1,z.keeps kp⟩
 ·have e:cenv.cells.lookup y=some c:=e;rcases mem e with ⟨h1,_⟩ | ⟨_,z⟩
  ·obtain ⟨w,z⟩:=I.cell y c h1;exact ⟨w,z.keeps kp⟩
  ·exact ⟨_,z⟩
 ·show H cenv.locals=none;rw [hL];exact I.hok.fresh (aU _)
 ·have e:cenv.cells.lookup y=some c:=e;rcases mem e with ⟨h1,_⟩ | ⟨h1,_⟩
  ·exact I.Dh y c h1
  ·exact I.hok.fresh (Jh h1)
 ·exact absurd (show p∈([]:List (Addr×Obj))++[] from hp) (by simp)))
theorem apS{E:Value->Shared->Prop}{D:Addr}{xs:List V}{y:V}{v:Value}{Q:Value->Shared->Prop}(I:Inv X pins σ H s)(hD:H D=some (.lst xs))(hz:xs.length<sizeLine)(r:RelV y v)(h:∀s',Inv X pins σ (upd H D (.lst (xs++[y]))) s'->Q .none s'):wpAny (model X.prog X.w) X.A (call (.builtin "list.append") [.ref D,v]) Q E s:=(by apply aj:aa (by
 obtain ⟨hz',its,n,ri,e⟩:=I.hok D _ hD;have hl:=ri.length;refine append_at (hsz:=by rw [bN];omega) e λh' sb ho'=>?_;refine h {s with heap:=h'} (I.write (t':=s.toks) (by rw [hD];trivial) (.inl rfl) (λb u hb q=>(sb.2 b hb).trans q) ⟨_,ho'⟩ ⟨by rw [aJ];exact hz,its++[v],n+1,ri.append (.cons r .nil),?_⟩);rw [ho'];simp))
def PTs(X:Cx)(ifs:List Expr)(t:TT):Prop:=
 ∀(pins:List (Addr×Obj)) (s:Shared) (σ:St) (H:Hp) (Q:Bool->Hp->Prop),Inv X pins σ H s->t σ H Q->
  wpAny (model X.prog X.w) X.A (forIn ifs true λc r=>if r=true then do let ok <-isTrue c X.env (eval c X.env);pure (Ox ok) else pure (Ox r)) (TP X pins σ Q) X.xe s
def W3:TT:=λ_ H Q=>Q true H
theorem kJ:PTs X [] W3:=λ_ _ _ H _ I h=>wpAny_tests_nil ⟨H,I,h⟩
theorem ahG{c:Expr}{t:TT}(h:PT X c t):PTs X [c] t:=λpins s σ H Q I hw=>wpAny_tests_one (h pins s σ H Q I hw)
end
theorem aiJ{α:Type}{t:Sem α}{Q Q':α->Shared->Prop}{M:Model}{A:Around}{E:Value->Shared->Prop}{s:Shared}(h:wpAny M A t Q (λ_ _=>False) s)(hQ:∀a s,Q a s->Q' a s):wpAny M A t Q' E s:=wpAny_mono h hQ λ_ _ z=>gZ z
theorem acV{prog:Program}{w:World}{A:Around}{R:Result->Shared->Prop}{s:Shared}{elt target iter:Expr}{ifs:List Expr}{scope:Scope}{pos:Pos}{it acc:Value}{env:Env}(I:Nat->Shared->Prop)(turn:∀n s,I n s->wpAny (model prog w) A (pyNext it) (λr s₁=>match r with
   |none=>R (.ok .next) s₁
   |some v=>wpAny (model prog w) A (letOwnedTupleGo target it v) (λ_ s₁'=>wpAny (model prog w) A (assign target env v) (λ_ s₂=>
     wpAny (model prog w) A (forIn ifs true λc r=>if r=true then do let ok <-isTrue c env (eval c env);pure (Ox ok) else pure (Ox r)) (λok s₃=>
      if ok=true then wpAny (model prog w) A (eval elt env) (λx s₄=>
       wpAny (model prog w) A (call (.builtin "list.append") [acc,x]) (λ_ s₅=>∃m,m<n/\I m s₅) (notedBy (model prog w) A env λe s'=>R (.error e) s') s₄) (notedBy (model prog w) A env λe s'=>R (.error e) s') s₃
      else ∃m,m<n/\I m s₃) (notedBy (model prog w) A env λe s'=>R (.error e) s') s₂) (notedBy (model prog w) A env λe s'=>R (.error e) s') s₁') (notedBy (model prog w) A env λe s'=>R (.error e) s') s₁) (notedBy (model prog w) A env λe s'=>R (.error e) s') s)(n:Nat)(h:I n s):
  codeAny (model prog w) A (.compLoop (.ListComp elt [⟨target,iter,ifs,0⟩] scope pos) 0 it acc env) R s:=(by apply aj:aa (by
 refine codeAny_loop rfl I (λn s hI=>?_) n h;show wpAny _ A ((compTurn (.ListComp elt [⟨target,iter,ifs,0⟩] scope pos) 0 it acc env).onRaise (λx=>do noteFrame x env;theTreesLotGoes x)) _ _ s;refine wpAny_noted ?_;rw [compTurn_list];refine wpAny_bind (wpAny_standAt (wpAny_bind (wpAny_mono (turn n s hI) (λr s₁ h₁=>?_) λ_ _ h'=>h')));cases r with
 |none=>exact wpAny_pure h₁
 |some v=>
  refine wpAny_bind (wpAny_mono h₁ (λ_ s₁' h₁'=>?_) λ_ _ h'=>h');refine wpAny_bind (wpAny_mono h₁' (λ_ s₂ h₂=>wpAny_bind (wpAny_mono h₂ (λok s₃ h₃=>?_) λ_ _ h'=>h')) λ_ _ h'=>h');cases ok with
  |false=>exact wpAny_pure ⟨rfl,h₃⟩
  |true=>
   exact wpAny_bind (wpAny_bind (wpAny_mono h₃ (λx s₄ h₄=>wpAny_bind (wpAny_mono h₄ (λ_ s₅ h₅=>wpAny_pure (wpAny_pure ⟨rfl,h₅⟩)) λ_ _ h'=>h')) λ_ _ h'=>h'))))
section
variable {X:Cx}
def tLc(wi:TI)(g:TG)(tt:TT)(te:TE)(vs:List Nat):TE:=λσ H Q=>wi σ H λJ H1=>∀D,H1 D=none->∃W:Nat->Nat->Hp->Prop,(∃m,W 0 m (upd H1 D (.lst [])))/\∀i m H,W i m H->
 (J.stop i H/\Q (.ref D) H)\/(J.go i H/\∃Nx:Hp->Prop,(∀H',Nx H'->∃m',m'<m/\W (i+1) m' H')/\∀x H',J.yld i H x H'->g x (wipe σ vs) H' λσ2 H2=>wipe σ2 vs=wipe σ vs/\tt σ2 H2 λb H3=>
  if b=true then te σ2 H3 λy H4=>∃acc,H4 D=some (.lst acc)/\acc.length<sizeLine/\Nx (upd H4 D (.lst (acc++[y]))) else Nx H3)
theorem ahV{pins:List (Addr×Obj)}{s:Shared}{σ:St}{H:Hp}{Q:VK}{elt tg iter:Expr}{ifs:List Expr}{scope:Scope}{own:List (Str×Nat)}{pos pos':Pos}{wi:TI}{g:TG}{tt:TT}{te:TE}{use:Option (Value->Sem Unit)}{Qf:Value->Shared->Prop}(hc:X.calm=true)(hN:X.N.Nodup)(I:Inv X pins σ H s)(hi:PI X tg iter wi)(ok:afk X.N X.env.scope scope own)(hg:∀(s:Shared) (H:Hp) (C:Addr) (cl:List (Str×Addr)) (fp:List Addr),PG (X.blk s H scope (compEnvC scope cl C X.env) fp) tg g)(ht:∀(s:Shared) (H:Hp) (C:Addr) (cl:List (Str×Addr)) (fp:List Addr),PTs (X.blk s H scope (compEnvC scope cl C X.env) fp) ifs tt)(he:∀(s:Shared) (H:Hp) (C:Addr) (cl:List (Str×Addr)) (fp:List Addr),PE (X.blk s H scope (compEnvC scope cl C X.env) fp) elt te)(hs:∀x,foldedSetIterable iter X.env x=pure x)(h:tLc wi g tt te (own.map (·.2)) σ H Q)(hRR:∀D C s' m H',Inv X pins σ H' s'->Q (.ref D) H'->s'.heap.Ns C m->V6 X pins H' C->compPost (model X.prog X.w) X.A X.xe use Qf (.ref D) C (.ok .next) s'):
  wpAny (model X.prog X.w) X.A (comprehension (.ListComp elt [⟨tg,iter,ifs,0⟩] scope pos) scope X.env pos' (newList []) false (eval iter X.env) use) Qf X.xe s:=(by apply aj:aa (by
 have hfree:∀y∈scope.names,y.2= .free->∃c,X.env.cells.lookup y.1=some c:=λy hy e=>by
  rcases ok.free y hy e with k | k
  ·exact I.ok.has _ (.inl k)
  ·exact I.ok.has _ (.inr k)
 refine wpAny_comprehension_free (use:=use) rfl hs (agP hfree) ok.kind (λy hy e=>by rw [ok.uniq y hy,e])
  (jL (hi pins s σ H _ I h) λxv s1 hx=>jL hx λitv s2 h2=>?_)
 obtain ⟨it,fp,tn,J,H2,e,I2,T,st2,f2,q⟩:=h2;subst e;refine wpAny_newObj_type (aeu ?_) (by show 0<=sizeLine;decide);generalize hD:s2.heap.objs.size=D;have Zz:H2 D=none:=I2.hok.fresh (Dy hD);obtain ⟨W,⟨m0,w0⟩,turn⟩:=q D Zz;generalize hs3:({s2 with heap:=s2.heap.push {cls:=.type "list",data:=.seq ([]:List Value).toArray}}:Shared)=s3;have I3:Inv X pins σ (upd H2 D (.lst [])) s3:=by
  rw [<-hs3];refine I2.laid (t':=s2.toks) (λb o e=>aA _ e) (Dy hD) ⟨eX _,[],0,.nil,?_⟩;rw [<-hD];exact aR _ rfl
 have h3:s3.heap=s2.heap.push {cls:=.type "list",data:=.seq ([]:List Value).toArray}:=by rw [<-hs3]
 have sz:∀b∈fp,b<s2.heap.objs.size:=λb hb=>by
  obtain ⟨o,e,_⟩:=T.obj _ _ st2 b hb;exact aZ e
 have f3:∀b∈fp,V6 X pins (upd H2 D (.lst [])) b/\b<s3.heap.objs.size:=λb hb=>by
  have hlt:=sz b hb;refine ⟨⟨?_,(f2 b hb).2⟩,by rw [h3,cQ];exact jD hlt⟩;rw [aF (by rw [<-hD];exact b8 hlt)];exact (f2 b hb).1
 have st3:tn 0 s3.heap:=T.keep _ _ _ st2 λb _ o e=>by rw [h3];exact aA _ e
 have I4:=ae5 I3 ok hN f3;have pg:=hg s3 (upd H2 D (.lst [])) s3.heap.objs.size (cellsFrom (s3.heap.objs.size+1) scope.names (jM X.env.cells scope.names [])) fp;have pt:=ht s3 (upd H2 D (.lst [])) s3.heap.objs.size (cellsFrom (s3.heap.objs.size+1) scope.names (jM X.env.cells scope.names [])) fp;have pe:=he s3 (upd H2 D (.lst [])) s3.heap.objs.size (cellsFrom (s3.heap.objs.size+1) scope.names (jM X.env.cells scope.names [])) fp;show codeAny _ _ (.compStart (.ListComp elt [⟨tg,iter,ifs,0⟩] scope pos) 0 (.ref it) (.ref D) (compEnvC scope (cellsFrom (s3.heap.objs.size+1) scope.names (jM X.env.cells scope.names [])) s3.heap.objs.size X.env)) (compPost (model X.prog X.w) X.A X.xe use Qf (.ref D) s3.heap.objs.size) {s3 with heap:=pushCells (s3.heap.push {cls:=.type "dict",data:=.dict #[]}) scope.names};have nfp:∀b∈fp,(upd H2 D (.lst [])) b=none:=λb hb=>(f3 b hb).1.1;generalize hce:compEnvC scope (cellsFrom (s3.heap.objs.size+1) scope.names (jM X.env.cells scope.names [])) s3.heap.objs.size X.env=ce at I4 pg pt pe⊢;have cL:ce.locals=s3.heap.objs.size:=by subst hce;rfl
 generalize hH3:upd H2 D (.lst [])=H3 at I3 I4 pg pt pe w0 nfp f3;generalize hs4:({s3 with heap:=pushCells (s3.heap.push {cls:=.type "dict",data:=.dict #[]}) scope.names}:Shared)=s4 at I4⊢;have st4:tn 0 s4.heap:=T.keep _ _ _ st3 λb _ o e=>by rw [<-hs4];exact pushCells_keeps _ _ _ _ (aA _ e)
 have stat:∀{σ':St} {H':Hp} {s':Shared},Inv (X.blk s3 H3 scope ce fp) [] σ' H' s'->(∀b∈fp,H' b=none)->∀b∈fp,V6 (X.blk s3 H3 scope ce fp) [] H' b:=λ{σ' H' s'} I' hn b hb=>
  ⟨hn b hb,(I'.ok.exf b hb).1,I'.ok.ame b hb,.inl hb,λx c e=>(I'.ok.exf b hb).2 x c e,λp hp=>absurd (show p∈([]:List (Addr×Obj))++[] from hp) (by simp)⟩
 have loop:codeAny (model X.prog X.w) X.A (.compLoop (.ListComp elt [⟨tg,iter,ifs,0⟩] scope pos) 0 (.ref it) (.ref D) ce) (compPost (model X.prog X.w) X.A X.xe use Qf (.ref D) s3.heap.objs.size) s4:=by
  refine acV (λn s'=>∃i H',Inv (X.blk s3 H3 scope ce fp) [] (wipe σ (own.map (·.2))) H' s'/\tn i s'.heap/\(∀b∈fp,H' b=none)/\W i n H') ?_ m0 ⟨0,H3,I4,st4,nfp,w0⟩;rintro n s5 ⟨i,H5,I5,st5,n5,w5⟩;rcases turn i n H5 w5 with ⟨stop,qq⟩ | ⟨go,Nx,hNx,step⟩
  ·have td:=T.done (X.blk s3 H3 scope ce fp) rfl rfl rfl hc i [] s5 _ H5 (λ_ _=>False) I5 (stat I5 n5) st5 stop;refine aiJ td λr s6 ⟨hr,I6⟩=>?_;subst hr;have I7:Inv X pins σ H5 s6:=I3.call' (ch:=fp) I6.os I6.base I6.hok I6.bare λb hb=>⟨(f3 b hb).1.2.2.2.1,(f3 b hb).1.2.1,(f3 b hb).1.2.2.2.2.1,(f3 b hb).1.2.2.2.2.2⟩;have nC:H5 s3.heap.objs.size=none:=by
    have z:H5 ce.locals=none:=I6.free;rw [cL] at z;exact z
   obtain ⟨m,hn,_⟩:=I6.loc;have hn:s6.heap.Ns ce.locals m:=hn;rw [cL] at hn;exact hRR D s3.heap.objs.size s6 m H5 I7 qq hn (I3.agC (aU _) nC)
  ·have ti:=T.item (X.blk s3 H3 scope ce fp) rfl rfl rfl hc i [] s5 _ H5 (λ_ _=>False) I5 (stat I5 n5) st5 go;refine aiJ ti λr s6 ⟨u,hr,h6⟩=>?_;subst hr;refine aiJ h6 λ_ s7 ⟨x,H7,I7,r7,y7,st7,n7⟩=>?_;have I7':=I7.pinned (stat I7 n7) (T.obj _ _ st7);refine aiJ (pg _ s7 _ H7 x u _ I7' r7 (step x H7 y7)) λ_ s8 ⟨σ8,H8,I8,hw8,q8⟩=>?_;refine aiJ (pt _ s8 σ8 H8 _ I8 q8) λb s9 ⟨H9,I9,q9⟩=>?_;have fin:∀{s':Shared} {H':Hp},Inv (X.blk s3 H3 scope ce fp) ([]++Xy fp s7.heap) σ8 H' s'->Nx H'->∃m,m<n/\∃i H',Inv (X.blk s3 H3 scope ce fp) [] (wipe σ (own.map (·.2))) H' s'/\tn i s'.heap/\(∀b∈fp,H' b=none)/\W i m H':=λ{s' H'} I' nx=>by
    obtain ⟨m',hm,w'⟩:=hNx H' nx;have aqP:∀b∈fp,∀o,s7.heap.get? b=some o->s'.heap.get? b=some o/\H' b=none:=λb hb o e=>
     let z:=I'.pin (b,o) (jd _ (jd _ (Qh hb e)))
     ⟨z.1,z.2.1⟩
    have hl:(wipe σ (own.map (·.2))).length=σ8.length:=by rw [<-hw8,J2]
    refine ⟨m',hm,i+1,H',(I'.Q5 (pins:=[])).weak hl (λj v e=>?_),T.keep _ _ _ st7 λb hb o e=>(aqP b hb o e).1,λb hb=>?_,w'⟩
    ·rw [<-hw8] at e;exact (Te e).1
    ·obtain ⟨o,e,_⟩:=T.obj _ _ st7 b hb;exact (aqP b hb o e).2
   cases b with
   |false=>
    simp only [cD,if_false] at q9⊢;exact fin I9 q9
   |true=>
    simp only [if_true] at q9⊢;refine aiJ (pe _ s9 σ8 H9 _ I9 q9) λz s10 ⟨yv,H10,I10,r10,acc,aus,atR,nx⟩=>?_;exact apS (X:=X.blk s3 H3 scope ce fp) I10 aus atR r10 λs11 I11=>fin I11 nx
 exact codeAny_compStart_list loop (T.self X.A 0 _ _ _ st4 loop)))
theorem yU{elt tg iter:Expr}{ifs:List Expr}{scope:Scope}{own:List (Str×Nat)}{pos:Pos}{wi:TI}{g:TG}{tt:TT}{te:TE}(hc:X.calm=true)(hN:X.N.Nodup)(hi:PI X tg iter wi)(ok:afk X.N X.env.scope scope own)(hg:∀(s:Shared) (H:Hp) (C:Addr) (cl:List (Str×Addr)) (fp:List Addr),PG (X.blk s H scope (compEnvC scope cl C X.env) fp) tg g)(ht:∀(s:Shared) (H:Hp) (C:Addr) (cl:List (Str×Addr)) (fp:List Addr),PTs (X.blk s H scope (compEnvC scope cl C X.env) fp) ifs tt)(he:∀(s:Shared) (H:Hp) (C:Addr) (cl:List (Str×Addr)) (fp:List Addr),PE (X.blk s H scope (compEnvC scope cl C X.env) fp) elt te)(hs:∀x,foldedSetIterable iter X.env x=pure x:=by intro _;rfl):
  PE X (.ListComp elt [⟨tg,iter,ifs,0⟩] scope pos) (tLc wi g tt te (own.map (·.2))):=by
 intro pins s σ H Q I h;rw [eval_ListComp];refine ahV hc hN I hi ok hg ht he hs h λD C s' m H' I' q hn f=>⟨m,hn,λh'' sb=>?_⟩;obtain ⟨f0,f1,f2,f3,f4,f5⟩:=f;exact ⟨.ref D,H',I'.turned (t':=s'.toks) (λb o hb e=>(sb.2 b hb).trans e) f0 f1 f3 f4 f5,rfl,q⟩
theorem Kr{i:Nat}{y:Str}{py:Pos}{elt tg iter:Expr}{ifs:List Expr}{scope:Scope}{own:List (Str×Nat)}{pos spos:Pos}{wi:TI}{g:TG}{tt:TT}{te:TE}(hc:X.calm=true)(hN:X.N.Nodup)(hy:X.N[i]? =some y)(hyl:X.env.scope.names.lookup y=some .local)(hsw:swapsWith (.ListComp elt [⟨tg,iter,ifs,0⟩] scope pos) (some (.Name y py)) spos.line X.env=pure true)(hi:PI X tg iter wi)(ok:afk X.N X.env.scope scope own)(hg:∀(s:Shared) (H:Hp) (C:Addr) (cl:List (Str×Addr)) (fp:List Addr),PG (X.blk s H scope (compEnvC scope cl C X.env) fp) tg g)(ht:∀(s:Shared) (H:Hp) (C:Addr) (cl:List (Str×Addr)) (fp:List Addr),PTs (X.blk s H scope (compEnvC scope cl C X.env) fp) ifs tt)(he:∀(s:Shared) (H:Hp) (C:Addr) (cl:List (Str×Addr)) (fp:List Addr),PE (X.blk s H scope (compEnvC scope cl C X.env) fp) elt te)(hs:∀x,foldedSetIterable iter X.env x=pure x:=by intro _;rfl):
  PS X (.Assign [.Name y py] (.ListComp elt [⟨tg,iter,ifs,0⟩] scope pos) spos) (aoF (tLc wi g tt te (own.map (·.2))) (wz i)):=(by apply aj:aa (by
 intro pins s σ H D I h;rw [exec_Assign_Name_used _ _ _ _ hsw];refine wpAny_bind (wpAny_standAt (wpAny_bind ?_));show wpAny _ X.A (do let _ <-comprehension (.ListComp elt [⟨tg,iter,ifs,0⟩] scope pos) scope X.env (firstIterPos [⟨tg,iter,ifs,0⟩] pos) (newList []) false (eval iter X.env) (some (assign (.Name y py) X.env))) _ _ s;have h:tLc wi g tt te (own.map (·.2)) σ H (λx H1=>wz i x σ H1 D.nx):=h;refine wpAny_bind (jL (ahV (Qf:=λ_ s'=>SP X pins D .next s') hc hN I hi ok hg ht he hs h λL C s' m H' I' q hn f=>?_) λ_ s' hq=>wpAny_pure (wpAny_pure hq));show wpAny _ _ (assign (.Name y py) X.env (.ref L)) _ _ _;refine wpAny_assign_Name (aaV (v:=V.ref L) I' hN hy (.inl hyl) rfl (λs2 I2 ⟨a,sb,ha⟩=>?_) (.inr hyl));obtain ⟨f0,f1,f2,f3,f4,f5⟩:=f;have haC:C≠a:=by
  rcases ha with z | z
  ·rw [z];exact f1
  ·exact λe=>f4 y a z e.symm
 refine ⟨m,hn.sameBut sb haC,λh3 sb3=>?_⟩;exact ⟨_,H',I2.turned (t':=s2.toks) (λb o hb e=>(sb3.2 b hb).trans e) f0 f1 f3 f4 f5,q⟩))
theorem Q8{elt:Expr}{gs:List Comprehension}{scope:Scope}{pos py:Pos}{y:Str}{l:Nat}{env:Env}(hk:env.scope.kind= .function)(hy:env.scope.names.lookup y=some .local)(hl:(py.line==pos.line)=true)(ha:(scope.names.any λ(n,k)=>n==y&&(k== .local || k== .cell))=false):swapsWith (.ListComp elt gs scope pos) (some (.Name y py)) l env=pure true:=by
 have ky:env.kindOf y=some .local:=hy;have hb:env.blockKind= .function:=by unfold Env.blockKind;rw [hk];rfl
 unfold swapsWith;simp only [hb,ky,ha,show (Expr.ListComp elt gs scope pos).pos=pos from rfl,hl];rfl
end
theorem ank{K:az}{a:Addr}{xs:List V}{g:TG}{tt:TT}{te:TE}{vs:List Nat}{σ:St}{H1:Hp}{D:Addr}{Qd:Hp->Prop}(Pv:Nat->Hp->Prop)(h0:Pv 0 (upd H1 D (.lst [])))(hl:∀i H,i<=xs.length->Pv i H->cY K H a xs)(hs:∀i x H,xs[i]? =some x->Pv i H->g x (wipe σ vs) H λσ2 H2=>wipe σ2 vs=wipe σ vs/\tt σ2 H2 λb H3=>
   if b=true then te σ2 H3 λy H4=>∃acc,H4 D=some (.lst acc)/\acc.length<sizeLine/\Pv (i+1) (upd H4 D (.lst (acc++[y]))) else Pv (i+1) H3)(hd:∀H,Pv xs.length H->Qd H):
  ∃W:Nat->Nat->Hp->Prop,(∃m,W 0 m (upd H1 D (.lst [])))/\∀i m H,W i m H->
   ((Itl K a).stop i H/\Qd H)\/((Itl K a).go i H/\∃Nx:Hp->Prop,(∀H',Nx H'->∃m',m'<m/\W (i+1) m' H')/\∀x H',(Itl K a).yld i H x H'->g x (wipe σ vs) H' λσ2 H2=>wipe σ2 vs=wipe σ vs/\tt σ2 H2 λb H3=>
    if b=true then te σ2 H3 λy H4=>∃acc,H4 D=some (.lst acc)/\acc.length<sizeLine/\Nx (upd H4 D (.lst (acc++[y]))) else Nx H3):=(by apply aj:aa (by
 refine ⟨λi m H=>m=xs.length - i/\i<=xs.length/\Pv i H,⟨xs.length,by simp,eX _,h0⟩,?_⟩;rintro i m H ⟨rfl,hi,p⟩;have q:=hl i H hi p;by_cases hlt:i<xs.length
 ·refine .inr ⟨⟨xs,xs[i],q,by simp [hlt]⟩,Pv (i+1),λH' p'=>⟨xs.length - (i+1),by omega,rfl,hlt,p'⟩,λx H' y=>?_⟩;obtain ⟨e,y⟩:=y;subst e;exact hs i x _ (y xs q) p
 ·have e:i=xs.length:=by omega
  subst e;exact .inl ⟨⟨xs,q,aU _⟩,hd H p⟩))
noncomputable def arP (N:List Str) (sc scope:Scope) (own:List (Str×Nat)):Bool:=
 (match scope.kind with | .function=>true | _=>false)&&(scope.names.all λy=>decide (scope.names.lookup y.1=some y.2))&&(own.all λp=>decide (N[p.2]? =some p.1))&&
  (scope.names.all λy=>match y.2 with
   |.free=>(match sc.names.lookup y.1 with | some .cell=>true | some .free=>true | _=>false)
   |.local=>decide (y.1∈own.map (·.1)) || decide (y.1∉N)
   |.cell=>decide (y.1∈own.map (·.1)) || decide (y.1∉N)
   |_=>true)
theorem iJ{N:List Str}{sc scope:Scope}{own:List (Str×Nat)}(h:arP N sc scope own=true):afk N sc scope own:=(by apply aj:aa (by
 unfold arP at h;simp only [bf,dH,decide_eq_true_eq] at h;obtain ⟨⟨⟨h1,h2⟩,h3⟩,h4⟩:=h;refine ⟨?_,h2,h3,λy hy e=>?_,λy hy e=>?_⟩
 ·split at h1
  ·assumption
  ·cases h1
 ·have q:=h4 y hy;simp only [e] at q;split at q<;>first | exact .inl (by assumption) | exact .inr (by assumption) | cases q
 ·have q:=h4 y hy;rcases e with e | e<;>(simp only [e,Cy,decide_eq_true_eq] at q;exact q)))
end L2
namespace L2
open PySem PySem.Spec PyProof.Rows
section
variable {κ:Type} [DecidableEq κ]
noncomputable def m7 (kvs:List (κ×V)) (k:κ):Option V:=(kvs.find? λkv=>decide (kv.1=k)).map (·.2)
noncomputable def putK (kvs:List (κ×V)) (k:κ) (v:V):List (κ×V):=
 if (kvs.any λkv=>decide (kv.1=k))=true then kvs.map (λkv=>if kv.1=k then (kv.1,v) else kv) else kvs++[(k,v)]
theorem xT{p:κ×V}{r:List (κ×V)}{k:κ}(e:p.1=k):m7 (p::r) k=some p.2:=by simp [m7,jK,e]
theorem xU{p:κ×V}{r:List (κ×V)}{k:κ}(e:¬p.1=k):m7 (p::r) k=m7 r k:=by simp [m7,jK,e]
theorem Q4(k:κ):∀kvs:List (κ×V),(kvs.any λkv=>decide (kv.1=k))=(m7 kvs k).isSome
 |[]=>rfl
 |p::r=>by
  rw [uB];by_cases e:p.1=k
  ·simp only [xT e,decide_eq_true e,Bool.true_or,gG]
  ·rw [xU e,decide_eq_false e,Bool.false_or];exact Q4 k r
theorem KY(kvs:List (κ×V))(k:κ)(v:V):(putK kvs k v).length<=kvs.length+1:=by
 unfold putK;split
 ·rw [ao];omega
 ·rw [aJ,aH,bF];omega
theorem Xn{kvs:List (κ×V)}{k:κ}(v:V)(h:m7 kvs k=none):putK kvs k v=kvs++[(k,v)]:=by
 unfold putK;rw [Q4,h];exact if_neg (by decide)
theorem Mh.Nk{o:Option V}{u:Option Value}(r:Mh o u):o.isSome=u.isSome:=by
 cases o with
 |none=>cases u with
  |none=>rfl
  |some _=>exact (show False from r).elim
 |some _=>cases u with
  |none=>exact (show False from r).elim
  |some _=>rfl
theorem Mh.getD{o:Option V}{u:Option Value}{d:V}{d':Value}(r:Mh o u)(rd:RelV d d'):RelV (o.getD d) (u.getD d'):=by
 cases o with
 |none=>cases u with
  |none=>exact rd
  |some _=>exact (show False from r).elim
 |some _=>cases u with
  |none=>exact (show False from r).elim
  |some _=>exact r
theorem KV.val{kvs:List (κ×V)}{vs:List (κ×Value)}(r:KV kvs vs)(k:κ):Mh (m7 kvs k) (valueAt vs k):=(by apply aj:aa (by
 unfold KV at r
 induction r with
 |nil=>exact N7
 |@cons p q ps qs h t ih=>
  obtain ⟨h1,h2⟩:=h;by_cases e:p.1=k
  ·have e':q.1=k:=h1.symm.trans e;have b:valueAt (q::qs) k=some q.2:=by simp [valueAt,jK,e']
   rw [xT e,b];exact h2
  ·have e':¬q.1=k:=λz=>e (h1.trans z);have b:valueAt (q::qs) k=valueAt qs k:=by simp [valueAt,jK,e']
   rw [xU e,b];exact ih))
theorem KV.any{kvs:List (κ×V)}{vs:List (κ×Value)}(r:KV kvs vs)(k:κ):(kvs.any λkv=>decide (kv.1=k))=vs.any λkv=>decide (kv.1=k):=by
 unfold KV at r
 induction r with
 |nil=>rfl
 |cons h t ih=>rw [uB,uB,ih,h.1]
theorem KV.repl{kvs:List (κ×V)}{vs:List (κ×Value)}(r:KV kvs vs)(k:κ){y:V}{u:Value}(ry:RelV y u):
  KV (kvs.map λkv=>if kv.1=k then (kv.1,y) else kv) (vs.map λkv=>if kv.1=k then (kv.1,u) else kv):=by
 unfold KV at r⊢
 induction r with
 |nil=>exact .nil
 |@cons p q ps qs h t ih=>
  rw [bu,bu];refine .cons ?_ ih;obtain ⟨h1,h2⟩:=h;by_cases e:p.1=k
  ·rw [if_pos e,if_pos (h1.symm.trans e)];exact ⟨h1,ry⟩
  ·rw [if_neg e,if_neg (λz=>e (h1.trans z))];exact ⟨h1,h2⟩
theorem KV.put{kvs:List (κ×V)}{vs:List (κ×Value)}(r:KV kvs vs)(k:κ){y:V}{u:Value}(ry:RelV y u):KV (putK kvs k y) (stored vs k u):=by
 unfold putK stored;rw [r.any k];by_cases e:(vs.any λkv=>decide (kv.1=k))=true
 ·rw [if_pos e,if_pos e];exact r.repl k ry
 ·rw [if_neg e,if_neg e];exact akA r ⟨rfl,ry⟩
theorem KV.length{kvs:List (κ×V)}{vs:List (κ×Value)}(r:KV kvs vs):kvs.length=vs.length:=jy r
end
theorem RC{P:Program}{w:World}{k:Key}{u:Value}(r:RelV (kV k) u):(fY P w).is k u=true:=by
 cases k with
 |inl i=>obtain ⟨t,e⟩:=(show ∃t,u=JR i t from r);subst e;exact aez P w i t
 |inr x=>obtain ⟨t,e⟩:=(show ∃t,u=ag7 x t from r);subst e;exact aey P w x t
theorem aa5{P:Program}{w:World}:∀{ks:List Key} {us:List Value},Vals (ks.map kV) us->ItemsAre (fY P w) ks us
 |[],_,r=>by rw [jE] at r;cases r;exact .nil
 |k::ks,_,r=>by
  rw [bu] at r;cases r with
  |cons h t=>exact .cons (RC h) (aa5 t)
abbrev KT(H:Hp):List (List Key×V)->List (List Key×Addr×Value)->Prop:=Paired λp q=>p.1=q.1/\H q.2.1=some (.tup (p.1.map kV))/\RelV p.2 q.2.2
theorem KT.val{H:Hp}{kvs:List (List Key×V)}{xs:List (List Key×Addr×Value)}(r:KT H kvs xs)(k:List Key):Mh (m7 kvs k) ((atKey xs k).map (·.2)):=(by apply aj:aa (by
 induction r with
 |nil=>exact N7
 |@cons p q ps qs h t ih=>
  obtain ⟨h1,_,h2⟩:=h;by_cases e:p.1=k
  ·have e':q.1=k:=h1.symm.trans e;have b:atKey (q::qs) k=some q.2:=by simp [atKey,jK,e']
   rw [xT e,b];exact h2
  ·have e':¬q.1=k:=λz=>e (h1.trans z);have b:atKey (q::qs) k=atKey qs k:=by simp [atKey,jK,e']
   rw [xU e,b];exact ih))
theorem KT.repl{H:Hp}{kvs:List (List Key×V)}{xs:List (List Key×Addr×Value)}(r:KT H kvs xs)(k:List Key){y:V}{u:Value}(ry:RelV y u):
  KT H (kvs.map λkv=>if kv.1=k then (kv.1,y) else kv) (xs.map (putAt k u)):=by
 induction r with
 |nil=>exact .nil
 |@cons p q ps qs h t ih=>
  rw [bu,bu];refine .cons ?_ ih;obtain ⟨h1,h2,h3⟩:=h;unfold putAt;by_cases e:p.1=k
  ·rw [if_pos e,if_pos (h1.symm.trans e)];exact ⟨h1,h2,ry⟩
  ·rw [if_neg e,if_neg (λz=>e (h1.trans z))];exact ⟨h1,h2,h3⟩
theorem KT.put{H:Hp}{kvs:List (List Key×V)}{xs:List (List Key×Addr×Value)}(r:KT H kvs xs)(k:List Key){b:Addr}{y:V}{u:Value}(hb:H b=some (.tup (k.map kV)))(ry:RelV y u):
  KT H (putK kvs k y) (storedH xs k b u):=by
 have e:(kvs.any λkv=>decide (kv.1=k))=(atKey xs k).isSome:=by
  rw [Q4,(r.val k).Nk,Wq]
 unfold putK storedH;rw [e];by_cases q:(atKey xs k).isSome=true
 ·rw [if_pos q,if_pos q];exact r.repl k ry
 ·rw [if_neg q,if_neg q];exact akA r ⟨rfl,hb,ry⟩
theorem KT.keeps{H H':Hp}{kvs:List (List Key×V)}{xs:List (List Key×Addr×Value)}(r:KT H kvs xs)(ht:∀b ys,H b=some (.tup ys)->H' b=some (.tup ys)):KT H' kvs xs:=
 Paired.anj r λ_ _ z=>⟨z.1,ht _ _ z.2.1,z.2.2⟩
section
variable {P:Program} {w:World} {H:Hp} {h:Heap} {a:Addr}
theorem an5{u:HO}(ok:JQ P w H h)(e:Rd H a u):lE P w H h a u:=e.ok ok
theorem abf{kvs:List (Key×V)}(ok:JQ P w H h)(e:Rd H a (.dK kvs)):kvs.length<=sizeLine/\(a==sysModules)=false/\∃vs,KV kvs vs/\h.DictOf (fY P w) a vs:=
 show lE P w H h a (.dK kvs) from an5 ok e
theorem arL{kvs:List (Key×V)}(ok:JQ P w H h)(e:H a=some (.dK kvs)):kvs.length<=sizeLine/\(a==sysModules)=false/\∃vs,KV kvs vs/\h.DictOf (fY P w) a vs:=abf ok (.inl e)
theorem Yi{ks:List Key}(ok:JQ P w H h)(e:H a=some (.tup (ks.map kV))):(tupleKind (fY P w)).is h ks a:=by
 obtain ⟨_,its,r,o,h1,h2,n,h3⟩:=(show lE P w H h a (.tup (ks.map kV)) from ok a _ e);exact ⟨o,its.toArray,n,h1,h2,h3,by simpa using aa5 r⟩
theorem ae0{kvs:List (List Key×V)}(ok:JQ P w H h)(e:Rd H a (.dT kvs)):kvs.length<=sizeLine/\(a==sysModules)=false/\
  ∃xs,KT H kvs xs/\h.DictOfH (tupleKind (fY P w)) a xs:=(by apply aj:aa (by
 obtain ⟨z,y,xs,r,o,es,ep,h1,h2,h3,h4,h5⟩:=(show lE P w H h a (.dT kvs) from an5 ok e);refine ⟨z,y,xs,r,o,es,ep,h1,h2,h3,h4,λx hx=>?_,h5⟩;have all:∀{l:List (List Key×V)} {m:List (List Key×Addr×Value)},KT H l m->∀x∈m,(tupleKind (fY P w)).is h x.1 x.2.1:=by
  intro l m q
  induction q with
  |nil=>intro x hx;exact nomatch hx
  |@cons p q ps qs hq t ih=>
   intro x hx;rcases bc.mp hx with e | hx
   ·subst e;exact Yi ok (by rw [<-hq.1];exact hq.2.1)
   ·exact ih x hx
 exact all r x hx))
theorem arK{kvs:List (List Key×V)}(ok:JQ P w H h)(e:H a=some (.dT kvs)):kvs.length<=sizeLine/\(a==sysModules)=false/\
  ∃xs,KT H kvs xs/\h.DictOfH (tupleKind (fY P w)) a xs:=ae0 ok (.inl e)
end
def Et(H:Hp)(a:Addr)(y:V)(r:Option V):Prop:=
 (∃kvs k,Rd H a (.dK kvs)/\y=kV k/\r=m7 kvs k)\/∃kvs k b,Rd H a (.dT kvs)/\y= .ref b/\H b=some (.tup (k.map kV))/\r=m7 kvs k
def akd(H:Hp)(a:Addr)(y v:V)(H':Hp):Prop:=
 (∃kvs k,H a=some (.dK kvs)/\y=kV k/\kvs.length<sizeLine/\H'=upd H a (.dK (putK kvs k v)))\/
 ∃kvs k b,H a=some (.dT kvs)/\y= .ref b/\H b=some (.tup (k.map kV))/\kvs.length<sizeLine/\H'=upd H a (.dT (putK kvs k v))
theorem Et.k{H:Hp}{a:Addr}{kvs:List (Key×V)}{k:Key}(e:H a=some (.dK kvs)):Et H a (kV k) (m7 kvs k):=.inl ⟨kvs,k,.inl e,rfl,rfl⟩
theorem akd.k{H:Hp}{a:Addr}{kvs:List (Key×V)}{k:Key}{v:V}(e:H a=some (.dK kvs))(hl:kvs.length<sizeLine):akd H a (kV k) v (upd H a (.dK (putK kvs k v))):=.inl ⟨kvs,k,e,rfl,hl,rfl⟩
section
variable {X:Cx} {pins:List (Addr×Obj)} {σ:St} {H:Hp} {s:Shared} {a:Addr} {y v:V} {u r:Value} {o:Option V} {A:Around} {E:Value->Shared->Prop}
theorem Inv.big(I:Inv X pins σ H s):sysModules<s.heap.objs.size:=by
 have h:mainGlobals<s.heap.objs.size:=(I.mod.glob.keeps I.bk).lt;exact xN (by decide) h
theorem auE{Q:Value->Shared->Prop}(hu:A.units+1<cLine)(I:Inv X pins σ H s)(g:Et H a y o)(ry:RelV y u)(h:∀s',Inv X pins σ H s'->Q (.bool o.isSome) s'):
  wpAny (model X.prog X.w) A (compareOp .In u (.ref a)) Q E s:=(by apply aj:aa (by
 rcases g with ⟨kvs,k,e,ey,l⟩ | ⟨kvs,k,b,e,ey,eb,l⟩
 ·subst ey;obtain ⟨z,hd,vs,rel,dd⟩:=abf I.hok e;refine wpAny_in_of (RC ry) hd dd.mapOf ?_;rw [<-(rel.val k).Nk,<-l];exact h _ (I.tok _)
 ·subst ey;cases (show u=dX b from ry);obtain ⟨z,hd,xs,rel,dd⟩:=ae0 I.hok e;refine wpAny_in_heap (tupleKind_room_in1 hu) (Yi I.hok eb) hd dd ?_;have q:=(rel.val k).Nk;rw [Wq] at q;rw [<-q,<-l];exact h _ (I.tok _)))
theorem aii{h':Heap}{t':Nat}{ob:HO}(I:Inv X pins σ H s)(mu:Mut (H a))(hs:jj a s.heap h')(he:∃q,h'.get? a=some q)(new:lE X.prog X.w (upd H a ob) h' a ob):
  Inv X pins σ (upd H a ob) {s with heap:=h',toks:=t'}:=
 I.write (x:=a) (e:=a) mu (.inl rfl) (λb q hb z=>(hs.2 b hb).trans z) he new
theorem apI{P:Program}{w:World}{H':Hp}{h':Heap}{kvs:List (Key×V)}{vs:List (Key×Value)}(z:kvs.length<=sizeLine)(hd:(a==sysModules)=false)(rel:KV kvs vs)(dd:h'.DictOf (fY P w) a vs):
  lE P w H' h' a (.dK kvs):=⟨z,hd,vs,rel,dd⟩
theorem ajS{H':Hp}{Q:Unit->Shared->Prop}(hu:A.units+1<cLine)(I:Inv X pins σ H s)(g:akd H a y v H')(ry:RelV y u)(rv:RelV v r)(h:∀s',Inv X pins σ H' s'->Q () s'):
  wpAny (model X.prog X.w) A (setItem (.ref a) u r) Q E s:=(by apply aj:aa (by
 rcases g with ⟨kvs,k,e,ey,l,eH⟩ | ⟨kvs,k,b,e,ey,eb,l,eH⟩
 ·subst ey eH;obtain ⟨z,hd,vs,rel,dd⟩:=arL I.hok e;have hz:vs.length<=sizeLine:=by rw [<-rel.length];exact z
  have hl:(putK kvs k v).length<=sizeLine:=by have:=KY kvs k v;omega
  refine wpAny_setItem_pairs (hsz:=hz) (RC ry) dd λh' dd' hs=>h _ ?_;have he:∃q,h'.get? a=some q:=let ⟨q,_,_,hq,_⟩:=dd';⟨q,hq⟩;exact aii I (by rw [e];exact N7) hs he (apI hl hd (rel.put k rv) dd')
 ·subst ey eH;cases (show u=dX b from ry);obtain ⟨z,hd,xs,rel,dd⟩:=arK I.hok e;have hz:xs.length<=sizeLine:=by rw [<-jy rel];exact z
  have hl:(putK kvs k v).length<=sizeLine:=by have:=KY kvs k v;omega
  refine wpAny_setItem_heap (hsz:=hz) (tupleKind_room_in1 hu) (Yi I.hok eb) dd λh' dd' hs=>h _ ?_;obtain ⟨q,es,ep,hq,h2,h3,h4,_,h5⟩:=dd';refine aii I (by rw [e];exact N7) hs ⟨q,hq⟩ ⟨hl,hd,_,(rel.put k eb rv).keeps λc ys ec=>?_,q,es,ep,hq,h2,h3,h4,h5⟩;rw [aF (dC ec e (λz=>nomatch z))];exact ec))
end
section
variable {X:Cx} {pins:List (Addr×Obj)} {σ:St} {H:Hp} {s:Shared} {a:Addr} {kvs:List (Key×V)} {k:Key} {u:Value} {A:Around} {E:Value->Shared->Prop}
theorem arM{Q:Value->Shared->Prop}(I:Inv X pins σ H s)(e:Rd H a (.dK kvs))(h:∀t s',Inv X pins σ H s'->Q (.int kvs.length t) s'):wpAny (model X.prog X.w) A (call (.builtin "len") [.ref a]) Q E s:=by
 obtain ⟨z,hd,vs,rel,dd⟩:=abf I.hok e;refine call_len_dict hd dd (by rw [<-rel.length];rw [sizeLine_eq] at z;omega) ?_;rw [<-rel.length];exact h _ _ (I.tok _)
end
def arT(i:Expr):Prop:=∀ov iv,subscripted i false ov iv=operate [ov,iv] (getItem ov iv)
theorem amO{prog:Program}{w:World}{A:Around}{E:Value->Shared->Prop}{s:Shared}{env:Env}{value slice:Expr}{pos:Pos}{T id:String}{Q:Value->Shared->Prop}(hl:typeLookup (.type T) "__getitem__"=pure (some (.builtin id)))(hs:arT slice)(h:wpAny (model prog w) A (eval value env) (λo s₁=>wpAny (model prog w) A (eval slice env) (λi s₂=>s₂.TypeIs o T/\wpAny (model prog w) A (getItem o i) Q E s₂) E s₁) E s):
  wpAny (model prog w) A (eval (.Subscript value slice pos) env) Q E s:=(by apply aj:aa (by
 refine Subscript_ (wpAny_mono h (λo s₁ h₁=>wpAny_mono h₁ (λi s₂ h₂=>?_) λ_ _ x=>x) λ_ _ x=>x);obtain ⟨hT,h₂⟩:=h₂;unfold subscriptTail;refine wpAny_bind ?_;rw [getitemInPython_of_ne hT.not_modules];refine wpAny_bind (wpAny_specialOf hT hl ?_);have fin:wpAny (model prog w) A (subscripted slice false o i) (λr s₃=>wpAny (model prog w) A (letTemporaryGo value o r >>= λ_=>pure r) Q E s₃) E s₂:=by
  rw [hs o i];exact wpAny_operating (wpAny_mono h₂ (λr s₃ h₃=>wpAny_bind (wpAny_letTemporaryGo (wpAny_pure h₃))) λ_ _ x=>x)
 first
  |exact wpAny_pure (wpAny_bind fin)
  |exact wpAny_bind (wpAny_pure (wpAny_bind fin))
  |exact wpAny_bind fin))
def auR(td ty:TE):TE:=λσ H Q=>td σ H λx H1=>ty σ H1 λy H2=>∃a v,x= .ref a/\Et H2 a y (some v)/\Q v H2
def asV(ty td:TE):TE:=λσ H Q=>ty σ H λy H1=>td σ H1 λx H2=>∃a o,x= .ref a/\Et H2 a y o/\Q (.bl o.isSome) H2
def ase(ty td:TE):TE:=λσ H Q=>ty σ H λy H1=>td σ H1 λx H2=>∃a o,x= .ref a/\Et H2 a y o/\Q (.bl (!o.isSome)) H2
def aqI(td ty tv:TE):TS:=λD σ H=>tv σ H λv H1=>td σ H1 λx H2=>ty σ H2 λy H3=>∃a H4,x= .ref a/\akd H3 a y v H4/\D.nx σ H4
section
variable {X:Cx} {o i e value:Expr} {pos pos' tpos:Pos} {td ty tv:TE}
theorem af3(hu:X.A.units+1<cLine)(hi:PE X i ty)(ho:PE X o td):PC X .In i o (asV ty td):=by
 intro pins s σ H Q I h;refine jL (hi pins s σ H _ I h) λiv s1 ⟨y,H1,I1,ry,q1⟩=>jL (ho pins s1 σ H1 _ I1 q1) λu s2 ⟨x,H2,I2,rx,a,ov,ex,g,q2⟩=>?_;subst ex;obtain rfl:u=dX a:=rx;exact auE hu I2 g ry λs3 I3=>⟨.bl ov.isSome,H2,I3,rfl,q2⟩
theorem ahH(hu:X.A.units+1<cLine)(ho:PE X o td)(hi:PE X i ty)(hv:PE X value tv)(hs:swapsWith value (some (.Subscript o i pos')) pos.line X.env=pure false):
  PS X (.Assign [.Subscript o i pos'] value pos) (aqI td ty tv):=by
 intro pins s σ H D I h;refine wpAny_Assign_Subscript (jL (hv pins s σ H _ I h) λr s1 ⟨v,H1,I1,rv,q1⟩=>jL (ho pins s1 σ H1 _ I1 q1) λu s2 ⟨x,H2,I2,rx,q2⟩=>jL (hi pins s2 σ H2 _ I2 q2) λiv s3 ⟨y,H3,I3,ry,a,H4,ex,g,q3⟩=>?_) hs;subst ex;obtain rfl:u=dX a:=rx;exact ajS hu I3 g ry rv λs4 I4=>⟨σ,H4,I4,q3⟩
end
theorem amg{P:Program}{w:World}{H:Hp}(h:Heap)(hb:sysModules<h.objs.size):lE P w H (h.push {cls:=.type "dict",data:=.dict #[]}) h.objs.size (.dK []):=
 ⟨eX _,beq_eq_false_iff_ne.mpr (cO (b8 hb)),[],.nil,Heap.DictOf.new h⟩
def aoB:TE:=λ_ H Q=>∀p,H p=none->Q (.ref p) (upd H p (.dK []))
section
variable {X:Cx} {pos:Pos}
theorem aeb:PE X (.Dict [] [] pos) aoB:=λpins s σ H Q I h=>
 wpAny_Dict_empty ⟨.ref s.heap.objs.size,_,I.laid (a:=s.heap.objs.size) (o:=.dK []) (t':=s.toks) (λ_ _ q=>aA _ q) (aU _) (amg s.heap I.big),rfl,h _ (I.hok.fresh (aU _))⟩
end
noncomputable def Bl (kvs more:List (Key×V)):List (Key×V):=more.foldl (λacc kv=>putK acc kv.1 kv.2) kvs
theorem KV.merge:∀{more:List (Key×V)} {rs:List (Key×Value)} {kvs:List (Key×V)} {vs:List (Key×Value)},KV more rs->KV kvs vs->KV (Bl kvs more) (merged vs rs):=by
 intro more rs kvs vs r;unfold KV at r
 induction r generalizing kvs vs with
 |nil=>intro q;exact q
 |@cons p q ps qs h t ih=>
  intro r0;have e:KV (putK kvs p.1 p.2) (stored vs q.1 q.2):=by
   have:=r0.put p.1 h.2;rw [<-h.1];exact this
  exact ih e
theorem O8:∀(more kvs:List (Key×V)),(Bl kvs more).length<=kvs.length+more.length
 |[],kvs=>by show kvs.length<=kvs.length+0;omega
 |p::r,kvs=>by
  have h1:=O8 r (putK kvs p.1 p.2);have h2:=KY kvs p.1 p.2;show (Bl (putK kvs p.1 p.2) r).length<=_;rw [aH];omega
structure M1(X:Cx)(o:Expr)(m:Str)(apos:Pos)(e:Expr)(cpos:Pos):Prop where
 base:attributeBase o m X.env (eval o X.env)=eval o X.env
 few:((backTo cpos (starEach [e] X.env)).all (λx=> !x.1)&&(backToKw cpos (keywordEach [] X.env)).all (λx=>x.1.isSome)
  &&decide (([e]:List Expr).length+([]:List Keyword).length+(if ([]:List Keyword).isEmpty then 0 else 1)<30))=true
 line:(apos.endLine==cpos.line)=true
 trees:backTo cpos (starEach [e] X.env)=[(false,eval e X.env)]
structure M2(X:Cx)(o:Expr)(m:Str)(apos:Pos)(e f:Expr)(cpos:Pos):Prop where
 base:attributeBase o m X.env (eval o X.env)=eval o X.env
 few:((backTo cpos (starEach [e,f] X.env)).all (λx=> !x.1)&&(backToKw cpos (keywordEach [] X.env)).all (λx=>x.1.isSome)
  &&decide (([e,f]:List Expr).length+([]:List Keyword).length+(if ([]:List Keyword).isEmpty then 0 else 1)<30))=true
 line:(apos.endLine==cpos.line)=true
 trees:backTo cpos (starEach [e,f] X.env)=[(false,eval e X.env),(false,eval f X.env)]
def IsD(H:Hp)(a:Addr):Prop:=(∃kvs,Rd H a (.dK kvs))\/∃kvs,Rd H a (.dT kvs)
theorem alH{X:Cx}{pins:List (Addr×Obj)}{σ:St}{H:Hp}{s:Shared}{a:Addr}(I:Inv X pins σ H s)(d:IsD H a):
  s.TypeIs (.ref a) "dict"/\(∀b,dX a= .ref b->∃ob,s.heap.get? b=some ob/\ob.dict=none)/\(a==sysModules)=false:=(by apply aj:aa (by
 rcases d with ⟨kvs,e⟩ | ⟨kvs,e⟩
 ·obtain ⟨_,hd,vs,_,dd⟩:=abf I.hok e;refine ⟨dd.typeIs,λb q=>?_,hd⟩;cases q;obtain ⟨ob,_,_,h1,h2,_⟩:=dd;exact ⟨ob,h1,h2.2.1⟩
 ·obtain ⟨_,hd,xs,_,dd⟩:=ae0 I.hok e;refine ⟨dd.typeIs,λb q=>?_,hd⟩;cases q;obtain ⟨ob,_,_,h1,h2,_⟩:=dd;exact ⟨ob,h1,h2.2.1⟩))
section
variable {X:Cx} {pins:List (Addr×Obj)} {σ:St} {H:Hp} {s:Shared} {a:Addr} {y d:V} {u r:Value} {o:Option V} {A:Around} {E:Value->Shared->Prop}
theorem apK{Q:Value->Shared->Prop}(hu:A.units+1<cLine)(I:Inv X pins σ H s)(g:Et H a y o)(ry:RelV y u)(h:∀w' s',Inv X pins σ H s'->RelV (o.getD .non) w'->Q w' s'):
  wpAny (model X.prog X.w) A (call (.builtin "dict.get") [.ref a,u]) Q E s:=(by apply aj:aa (by
 rcases g with ⟨kvs,k,e,ey,l⟩ | ⟨kvs,k,b,e,ey,eb,l⟩
 ·subst ey;obtain ⟨z,hd,vs,rel,dd⟩:=abf I.hok e;refine call_meetsIn jc dd.typeIs pP (ahb _ _) (meets_dict_get (fY X.prog X.w) a (RC ry) hd) ⟨_,dd.mapOf,h _ _ (I.tok _) ?_⟩;rw [l];exact (rel.val k).getD rfl
 ·subst ey;cases (show u=dX b from ry);obtain ⟨z,hd,xs,rel,dd⟩:=ae0 I.hok e;refine call_meetsIn jc dd.typeIs pP (ahb _ _) (meetsH_dict_get (tupleKind (fY X.prog X.w)) a b hd) ⟨tupleKind_room_in1 hu,k,xs,Yi I.hok eb,dd,h _ _ (I.tok _) ?_⟩;rw [l];exact (rel.val k).getD rfl))
theorem apJ{Q:Value->Shared->Prop}(hu:A.units+1<cLine)(I:Inv X pins σ H s)(g:Et H a y o)(ry:RelV y u)(rd:RelV d r)(h:∀w' s',Inv X pins σ H s'->RelV (o.getD d) w'->Q w' s'):
  wpAny (model X.prog X.w) A (call (.builtin "dict.get") [.ref a,u,r]) Q E s:=(by apply aj:aa (by
 rcases g with ⟨kvs,k,e,ey,l⟩ | ⟨kvs,k,b,e,ey,eb,l⟩
 ·subst ey;obtain ⟨z,hd,vs,rel,dd⟩:=abf I.hok e;refine call_meetsIn jc dd.typeIs pP (JT _ _ _) (meets_dict_get_default (fY X.prog X.w) a (RC ry) hd r) ⟨_,dd.mapOf,h _ _ (I.tok _) ?_⟩;rw [l];exact (rel.val k).getD rd
 ·subst ey;cases (show u=dX b from ry);obtain ⟨z,hd,xs,rel,dd⟩:=ae0 I.hok e;refine call_meetsIn jc dd.typeIs pP (JT _ _ _) (meetsH_dict_get_default (tupleKind (fY X.prog X.w)) a b hd r) ⟨tupleKind_room_in1 hu,k,xs,Yi I.hok eb,dd,h _ _ (I.tok _) ?_⟩;rw [l];exact (rel.val k).getD rd))
end
def aoD(td ty:TE):TE:=λσ H Q=>td σ H λx H1=>∃a,x= .ref a/\IsD H1 a/\ty σ H1 λy H2=>∃o,Et H2 a y o/\Q (o.getD .non) H2
def aoC(td ty tx:TE):TE:=λσ H Q=>td σ H λx H1=>∃a,x= .ref a/\IsD H1 a/\ty σ H1 λy H2=>tx σ H2 λz H3=>∃o,Et H3 a y o/\Q (o.getD z) H3
section
variable {X:Cx} {o e f:Expr} {apos cpos:Pos} {td ty tx:TE}
theorem Fp(hu:X.A.units+1<cLine)(ho:PE X o td)(he:PE X e ty)(m:M1 X o "get" apos e cpos):PE X (.Call (.Attribute o "get" apos) [e] [] cpos) (aoD td ty):=(by apply aj:aa (by
 intro pins s σ H Q I h;refine wpAny_Call_method m.base m.few m.line JS jc Pr (jL (ho pins s σ H _ I h) λu s1 ⟨x,H1,I1,rx,a,ex,d,q1⟩=>?_);subst ex;obtain rfl:u=dX a:=rx;obtain ⟨t1,t2,_⟩:=alH I1 d;refine ⟨t1,t2,?_⟩;rw [m.trees];refine pR rfl (rG (jl (jL (he pins s1 σ H1 _ I1 q1) λiv s2 ⟨y,H2,I2,ry,ov,g,q2⟩=>m5 ?_)));exact apK hu I2 g ry λw' s3 I3 rw'=>⟨_,H2,I3,rw',q2⟩))
theorem aec(hu:X.A.units+1<cLine)(ho:PE X o td)(he:PE X e ty)(hf:PE X f tx)(m:M2 X o "get" apos e f cpos):PE X (.Call (.Attribute o "get" apos) [e,f] [] cpos) (aoC td ty tx):=(by apply aj:aa (by
 intro pins s σ H Q I h;refine wpAny_Call_method m.base m.few m.line JS jc Pr (jL (ho pins s σ H _ I h) λu s1 ⟨x,H1,I1,rx,a,ex,d,q1⟩=>?_);subst ex;obtain rfl:u=dX a:=rx;obtain ⟨t1,t2,_⟩:=alH I1 d;refine ⟨t1,t2,?_⟩;rw [m.trees];refine pR rfl (rG (jl (jL (he pins s1 σ H1 _ I1 q1) λiv s2 ⟨y,H2,I2,ry,q2⟩=>
  jl (jL (hf pins s2 σ H2 _ I2 q2) λfv s3 ⟨z,H3,I3,rz,ov,g,q3⟩=>m5 ?_))))
 exact apJ hu I3 g ry rz λw' s4 I4 rw'=>⟨_,H3,I4,rw',q3⟩))
end
end L2
namespace L2
open PySem PySem.Spec PyProof.Rows
theorem Yc:typeLookup (.type "list") "keys"=pure none:=am_miss_of_fast (by first | decide+kernel | rfl)
theorem adD:entryFor table "dict.update.loop"=some Builtin.«dict.update.loop»:=entryFor_of_tree (by kernel_rfl)
theorem J5:plainId "dict.update.loop"=true:=by decide+kernel
section
variable {prog:Program} {w:World} {A:Around} {E:Value->Shared->Prop}
theorem ajg{s:Shared}{a:Addr}{o:Obj}{xs:Array Value}{k:Nat}{Q:Option Value->Shared->Prop}(hx:s.heap.get? a=some o)(hc:o.cls= .type "list")(hdat:o.data= .seq xs k)(hd:o.dict=none)(hA:A.handled=none)(h:∀h' tk,(∀b ob,s.heap.get? b=some ob->h'.get? b=some ob)->Q none {s with heap:=h',toks:=tk}):wpAny (model prog w) A (getAttr? (.ref a) "keys") Q E s:=(by apply aj:aa (by
 obtain ⟨c,dct,dat,sl⟩:=o;simp only at hc hdat hd;subst hc hdat hd;obtain ⟨hp,g,d,tk,os⟩:=s;have hT:∀tk',(⟨hp,g,d,tk',os⟩:Shared).TypeIs (.ref a) "list":=λ_=>⟨_,hx,rfl⟩;have hmiss:=Yc;have hname:(["__module__","__name__","__qualname__","__doc__","__annotations__"]:List Str).contains "keys"=false:=by decide+kernel
 have hsz:("keys":Str).length+100<=sizeLine:=by first | size_fits | decide+kernel
 have f1:=sub_AttributeError;have f3:=za.lookup;have f4:=za.bind (.ref a);have f5:=am_list_getattr_none;unfold getAttr? getAttrBy? getAttrBy
 repeat (any_goals (first | assumption | exact hT _ | ((with_reducible show wpAny _ _ (call (Value.builtin "list.__getattribute__") _ _) _ _ _);refine call_meets za (hT _) am_entry_list_getattribute (PySem.F.args_list_getattribute_2 _ _) (meets_getattribute_miss_list a xs k sl "keys" _ hmiss hname hsz) ⟨hx,hA,λh' tk' e hx'=>?_⟩) | wp_step))
 obtain ⟨t',u',he⟩:=hx'.there;show wpAny _ _ (getattributeRaised _ _ _ _ _ _ _) _ _ _;unfold getattributeRaised
 repeat (any_goals (first | assumption | wp_step))
 all_goals first | exact h _ _ hx'.keeps | (dsimp only;repeat (any_goals (first | assumption | exact h _ _ hx'.keeps | wp_step)))))
theorem adC{R:Result->Shared->Prop}{S I l:Addr}{items:Array Value}{res:Value}(hh:A.handled=none)(hlI:l≠I)(hSI:S≠I)(hSl:S≠l):
  ∀(rest:List (Key×Value)) (i:Nat) (acc:List (Key×Value)) (ix:Int) (t:Tok) (s:Shared),items.size=i+rest.length->acc.length+rest.length<=sizeLine->
   (∀(j:Nat) (q:Key×Value),rest[j]? =some q->∃(b:Addr) (u:Value),items[i+j]? =some (.ref b)/\b≠S/\b≠I/\IsTup s.heap b #[u,q.2]/\K4 q.1 u=true)->
   s.heap.IsListIter I l i->s.heap.IsList l items->s.heap.DictOf (fY prog w) S acc->
   (∀h' tk,h'.DictOf (fY prog w) S (merged acc rest)->(∀b o,b≠S->b≠I->s.heap.get? b=some o->h'.get? b=some o)->R (.ok (.ret res)) {s with heap:=h',toks:=tk})->
   codeAny (model prog w) A (.builtin "dict.update.loop" ⟨[.ref S,.ref I,.int ix t,res],[]⟩) R s
 |[],i,acc,ix,t,s,hsz,hln,ht,hit,hl,hm,hR=>by
  refine codeAny_builtin adD ?_;rw [il J5 _];show wpAny _ A.in1 (pyNext (.ref I) >>= _) _ _ s;refine wpAny_bind (wpAny_pyNext_list_end (A:=A.in1) hh hit hl (by first | exact xR (Dy hsz) | (simp at hsz;simp;omega)) λh' he=>?_);show wpAny _ A.in1 (Builtin.Dict.addKeywords S [] >>= _) _ _ _;refine wpAny_bind (wpAny_pure (wpAny_pure ?_));exact hR h' s.toks (hm.extBut he hSI) λb o _ hb e=>he b o hb e
 |q::rest,i,acc,ix,t,s,hsz,hln,ht,hit,hl,hm,hR=>by
  obtain ⟨b,u,hb,hbS,hbI,htup,hk⟩:=ht 0 q rfl;rw [aH] at hsz hln;refine codeAny_builtin adD ?_;rw [il J5 _];show wpAny _ A.in1 (pyNext (.ref I) >>= _) _ _ s;refine wpAny_bind (wpAny_pyNext_list_item (x:=.ref b) hit hl (by simpa using hb) λh1 hit1 hs1=>?_);have ht1:IsTup h1 b #[u,q.2]:=htup.extBut hs1.extBut hbI;have hl1:h1.IsList l items:=hl.extBut hs1.extBut hlI;have hm1:h1.DictOf (fY prog w) S acc:=hm.extBut hs1.extBut hSI;obtain ⟨o,ho,hc,n,hd⟩:=id ht1;show wpAny _ A.in1 (holding [dX b] _ >>= _) _ _ _;refine wpAny_bind (wpAny_holding ?_);refine wpAny_bind (wpAny_tryCatch ?_);unfold Builtin.Dict.pairItems;refine wpAny_bind (wpAny_typeOf (T:="tuple") ⟨o,ho,hc⟩ ?_);rw [if_pos (by first | decide | rfl | simp)];refine wpAny_bind (wpAny_seqItems ho hd (wpAny_pure ?_));show wpAny _ A.in1 (holding [u,q.2] (dictSet S u q.2)) _ _ _;refine wpAny_holding (wpAny_dictSet_pairs (knd:=fY prog w) (k:=q.1) hk hm1 (λh2 hm2 hs2=>?_) (by omega));refine wpAny_pure ⟨plainId_quiet J5 _,adC (items:=items) hh hlI hSI hSl rest (i+1) (stored acc q.1 q.2) (ix+1) 0 _ (show items.size=i+1+rest.length by omega) ?_ (λj q' e=>?_) ?_ ?_ hm2 λh' tk hd' k=>?_⟩
  ·have z:=stored_length_le acc q.1 q.2;omega
  ·obtain ⟨b',u',hb',aro,arp,aq9,hk'⟩:=ht (j+1) q' (by simpa using e);refine ⟨b',u',?_,aro,arp,(aq9.extBut hs1.extBut arp).extBut hs2.extBut aro,hk'⟩;rw [show i+1+j=i+(j+1) by omega];exact hb'
  ·exact hit1.at λo' e=>hs2.extBut I o' (cO hSI) e
  ·exact hl1.extBut hs2.extBut (cO hSl)
  ·exact hR h' tk hd' λc oc h3 h4 e=>k c oc h3 h4 (hs2.extBut c oc h3 (hs1.extBut c oc h4 e))
theorem V1{s:Shared}{l:Addr}{ol:Obj}{items:Array Value}{n:Nat}{prs:List (Key×Value)}{Q:Value->Shared->Prop}(hh:A.handled=none)(hl:s.heap.get? l=some ol)(hc:ol.cls= .type "list")(hd:ol.dict=none)(hdat:ol.data= .seq items n)(hsz:items.size=prs.length)(hln:prs.length<=sizeLine)(ht:∀(j:Nat) (q:Key×Value),prs[j]? =some q->∃(b:Addr) (u:Value),items[j]? =some (.ref b)/\IsTup s.heap b #[u,q.2]/\K4 q.1 u=true)(h:∀h' tk,h'.DictOf (fY prog w) s.heap.objs.size (merged [] prs)->(∀b o,s.heap.get? b=some o->h'.get? b=some o)->Q (.ref s.heap.objs.size) {s with heap:=h',toks:=tk}):
  wpAny (model prog w) A (call (.type "dict") [.ref l]) Q E s:=(by apply aj:aa (by
 refine callType_codes (Q₁:=λobj s₁=>obj= .ref s.heap.objs.size/\s₁={s with heap:=s.heap.push {cls:=.type "dict",data:=.dict #[]}}) PySem.F.kt_called_dict (PySem.F.kt_typeCall_dict_1 _) PySem.F.entry_dict_init (kt_code_dict_new _ ⟨rfl,rfl⟩) ?_;rintro obj s₁ ⟨rfl,rfl⟩;have hnew:(s.heap.push {cls:=.type "dict",data:=.dict #[]}).DictOf (fY prog w) s.heap.objs.size []:=Heap.DictOf.new s.heap;have k0:∀b o,s.heap.get? b=some o->(s.heap.push {cls:=.type "dict",data:=.dict #[]}).get? b=some o:=λb o e=>aA _ e;refine ⟨hnew.typeIs,PySem.F.args_dict_init_2 _ _,?_⟩;unfold Builtin.«dict.__init__»;refine wpAny_bind ?_;unfold Builtin.Dict.selfAndRest;refine wpAny_bind (wpAny_notOrdered_dict hnew.typeIs ?_);show wpAny _ _ (pure (s.heap.objs.size,[dX l])) _ _ _;refine wpAny_pure ?_;show wpAny _ _ (ahl "dict.__init__" s.heap.objs.size (.ref l) [] .none) _ _ _;unfold ahl;refine wpAny_bind (wpAny_typeOf (T:="list") ⟨ol,k0 _ _ hl,hc⟩ ?_);rw [if_pos (by first | decide | rfl | simp)];refine wpAny_bind (ajg (k0 _ _ hl) hc hdat hd hh λh1 tk1 hk1=>?_);rw [if_pos (show (none:Option Value).isNone=true from rfl)];refine wpAny_bind (wpAny_rule ?_);have hl1:h1.IsList l items:=⟨ol,hk1 _ _ (k0 _ _ hl),hc,n,hdat⟩;have hS1:s.heap.objs.size<h1.objs.size:=by
  have e:(s.heap.push {cls:=.type "dict",data:=.dict #[]}).get? s.heap.objs.size=some {cls:=.type "dict",data:=.dict #[]}:=aR _ rfl;exact aZ (hk1 _ _ e)
 refine wpAny_bind (wpAny_pyIter_list hl1 ?_);have k2:∀b o,h1.get? b=some o->(h1.push {cls:=.type "list_iterator",data:=.fields #[.ref l,.int 0 0]}).get? b=some o:=λb o e=>aA _ e;have hlt:l<s.heap.objs.size:=aZ hl;have key:=adC (prog:=prog) (w:=w) (A:=A.in1) (R:=wants (λr s₂=>r= .none/\Q (.ref s.heap.objs.size) s₂) E) (S:=s.heap.objs.size) (I:=h1.objs.size) (l:=l) (items:=items) (res:=Ey) hh
  (b8 (xN hlt hS1)) (b8 hS1) (j7 hlt) prs 0 [] 0 0
  {s with heap:=h1.push {cls:=.type "list_iterator",data:=.fields #[.ref l,.int 0 0]},toks:=tk1} (by rw [hsz,mX]) (by rw [bF,mX];exact hln)
  (λj q e=>by
   obtain ⟨b,u,e1,e2,e3⟩:=ht j q e;have hb:b<s.heap.objs.size:=e2.lt;exact ⟨b,u,by rw [mX];exact e1,b8 hb,b8 (xN hb hS1),e2.keeps λc o z=>k2 _ _ (hk1 _ _ (k0 _ _ z)),e3⟩)
  ⟨_,aR _ rfl,rfl,rfl⟩ (hl1.at λo e=>k2 _ _ e) ((hnew.at λo e=>hk1 _ _ e).at λo e=>k2 _ _ e)
  (λh' tk hd' k=>⟨rfl,h h' tk hd' λb o e=>k b o (b8 (aZ e)) (b8 (xN (aZ e) hS1)) (k2 _ _ (hk1 _ _ (k0 _ _ e)))⟩)
 first
  |exact wpAny_pure ⟨plainId_quiet J5 _,key⟩
  |exact wpAny_bind (wpAny_pure (wpAny_pure ⟨plainId_quiet J5 _,key⟩))))
end
section
variable {X:Cx}
theorem aee{pins:List (Addr×Obj)}{σ:St}{H:Hp}{s:Shared}(I:Inv X pins σ H s):∀{ps:List Addr} {kvs:List (Key×V)},Paired (λp kv=>Ol X.K H p [kV kv.1,kv.2]) ps kvs->
  ∃prs:List (Key×Value),KV kvs prs/\prs.length=ps.length/\∀(j:Nat) (q:Key×Value),prs[j]? =some q->∃(b:Addr) (u:Value),ps[j]? =some b/\IsTup s.heap b #[u,q.2]/\K4 q.1 u=true
 |_,_,.nil=>⟨[],.nil,rfl,λj q e=>by simp at e⟩
 |_,_,.cons (a:=p) (b:=kv) h t=>by
  obtain ⟨prs,r,hl,hp⟩:=aee I t;obtain ⟨its,rv,ht,_⟩:=I.tuple h;obtain ⟨u,y,ei,ru,ry⟩:=vals2 rv;subst ei;refine ⟨(kv.1,y)::prs,.cons ⟨rfl,ry⟩ r,by rw [aH,aH,hl],λj q e=>?_⟩;cases j with
  |zero=>
   have e':(kv.1,y)=q:=aB e;subst e';exact ⟨p,u,rfl,ht,RC (P:=X.prog) (w:=X.w) ru⟩
  |succ j=>
   obtain ⟨b,u',e1,e2,e3⟩:=hp j q (by simpa using e);exact ⟨b,u',by simpa using e1,e2,e3⟩
theorem ahE:∀{ps:List Addr} {us:List Value},Vals (ps.map V.ref) us->us=ps.map dX
 |[],us,r=>by
  rw [jE] at r;cases r;rfl
 |p::ps,us,r=>by
  rw [bu] at r;cases r with
  |cons h t=>
   cases h;rw [bu,<-ahE t]
theorem agQ(hcalm:X.calm=true):Cq X (.type "dict") (λxs H Q=>∃(a:Addr) (ps:List Addr) (kvs:List (Key×V)),xs=[.ref a]/\cY X.K H a (ps.map V.ref)/\Paired (λp kv=>Ol X.K H p [kV kv.1,kv.2]) ps kvs/\
  ∀p,H p=none->Q (.ref p) (upd H p (.dK (Bl [] kvs)))):=(by apply aj:aa (by
 intro pins s σ H xs us Q I r q;obtain ⟨a,ps,kvs,ex,hq,hp,q⟩:=q;subst ex;obtain ⟨u,eu,rx⟩:=vals1 r;subst eu;cases rx;obtain ⟨its,rv,pl,hz⟩:=I.list hq;have ei:=ahE rv;subst ei;rw [ao] at hz;obtain ⟨prs,rel,hl,hpr⟩:=aee I hp;obtain ⟨o,n,ho,hc,hd,hdat⟩:=pl;refine V1 (prs:=prs) (I.ok.hd hcalm) ho hc hd hdat (by simp [hl]) (by rw [hl];exact hz) (λj q' e=>?_) λh' tk hd' k=>?_
 ·obtain ⟨b,u,e1,e2,e3⟩:=hpr j q' e;exact ⟨b,u,by simp [e1],e2,e3⟩
 ·have hm:(s.heap.objs.size==sysModules)=false:=beq_eq_false_iff_ne.mpr (j7 I.big);have hlen:(Bl [] kvs).length<=sizeLine:=by
   refine aY (O8 kvs []) ?_;rw [bF,mX,rel.length,hl];exact hz
  exact ⟨.ref s.heap.objs.size,upd H s.heap.objs.size (.dK (Bl [] kvs)),I.laid (t':=tk) k (aU _) (show lE X.prog X.w _ _ _ (.dK (Bl [] kvs)) from ⟨hlen,hm,merged [] prs,KV.merge rel .nil,hd'⟩),rfl,q _ (I.hok.fresh (aU _))⟩))
end
end L2
namespace L2
open PySem PySem.Spec PyProof.Rows
section
variable {X:Cx} {pins:List (Addr×Obj)} {σ:St} {H:Hp} {s:Shared} {h':Heap}
theorem Inv.aht{t':Nat}{ch:List Addr}(I:Inv X pins σ H s)(k:∀b o,b∉ch->s.heap.get? b=some o->h'.get? b=some o)(hf:∀b∈ch,V6 X pins H b):Inv X pins σ H {s with heap:=h',toks:=t'}:=(by apply aj:aa (by
 have nit:∀b u,H b=some u->b∉ch:=λb u e z=>by
  have q:=(hf b z).1;rw [q] at e;cases e
 refine I.step (g':=s.gens) (d':=s.drawn) (ch:=ch) (λb hb=>⟨(hf b hb).2.2.2.1,(hf b hb).2.1,(hf b hb).2.2.2.2.1,(hf b hb).2.2.2.2.2⟩) (λb o _ _ hc e _=>k b o hc e) (λb o _ _ hc e _=>⟨o.slots,k b o hc e⟩)
  (λ_ _ _ _ n=>n) (λb o hc e=>⟨o,k b o hc e⟩) (λ_ _ e=>e) (λ_ _ _ e=>e) (λb ps e=>⟨#[],by rw [e];simp⟩) (λm hm=>?_) (λb u e=>?_) I.bare
 ·obtain ⟨o,es,ep,ho,r⟩:=hm;exact ⟨o,es,ep,k _ o (λz=>(hf _ z).2.1 rfl) ho,r⟩
 ·refine (I.hok b u e).stay (λc v hc q=>k c v ?_ q) (λ_ q=>q) λ_ _ q=>q;rcases hc with z | z
  ·rw [z];exact nit b u e
  ·exact nit c _ z))
theorem Inv.MN{t':Nat}{ch:List Addr}{T:Addr}{ob:HO}(I:Inv X pins σ H s)(k:∀b o,b∉ch->s.heap.get? b=some o->h'.get? b=some o)(hf:∀b∈ch,V6 X pins H b)(hT:s.heap.objs.size<=T)(new:lE X.prog X.w (upd H T ob) h' T ob):Inv X pins σ (upd H T ob) {s with heap:=h',toks:=t'}:=(by apply aj:aa (by
 have hn:H T=none:=I.hok.fresh hT;have nit:∀b u,H b=some u->b∉ch:=λb u e z=>by
  have q:=(hf b z).1;rw [q] at e;cases e
 refine I.step (g':=s.gens) (d':=s.drawn) (ch:=ch) (λb hb=>⟨(hf b hb).2.2.2.1,(hf b hb).2.1,(hf b hb).2.2.2.2.1,(hf b hb).2.2.2.2.2⟩) (λb o _ _ hc e _=>k b o hc e) (λb o _ _ hc e _=>⟨o.slots,k b o hc e⟩)
  (λb o _ e n=>?_) (λb o hc e=>⟨o,k b o hc e⟩) (λb xs e=>?_) (λb o u e=>?_) (λb ps e=>⟨#[],?_⟩) (λm hm=>?_) (λb u e=>?_) I.bare
 ·rw [aF (b8 (cM (aZ e) hT))];exact n
 ·rw [aF (fK e hn)];exact e
 ·rw [aF (fK e hn)];exact e
 ·rw [aF (fK e hn),e];simp
 ·obtain ⟨o,es,ep,ho,r⟩:=hm;exact ⟨o,es,ep,k _ o (λz=>(hf _ z).2.1 rfl) ho,r⟩
 ·by_cases hb:b=T
  ·subst hb;rw [aD] at e;cases e;exact new
  ·rw [aF hb] at e;refine (I.hok b u e).stay (λc v hc q=>k c v ?_ q) (λc q=>by rw [aF (fK q hn)];exact q) λc xs q=>by rw [aF (fK q hn)];exact q
   rcases hc with z | z
   ·rw [z];exact nit b u e
   ·exact nit c _ z))
theorem Inv.lock{d:Addr}{u:HO}(I:Inv X pins σ H s)(h:H d=some u)(mu:Mut (some u)):∃od,Inv X pins σ (upd H d (.xZ od u)) s:=(by apply aj:aa (by
 have x:=I.hok d u h;have ex:∃od,s.heap.get? d=some od:=by
  cases u with
  |lst xs=>obtain ⟨_,_,_,_,e⟩:=x;exact ⟨_,e⟩
  |dK kvs=>obtain ⟨_,_,_,_,o,_,_,e,_⟩:=x;exact ⟨o,e⟩
  |dT kvs=>obtain ⟨_,_,_,_,o,_,_,e,_⟩:=x;exact ⟨o,e⟩
  |set S n=>obtain ⟨o,_,_,_,e,_⟩:=x;exact ⟨o,e⟩
  |ins C dx fs=>obtain ⟨_,_,_,e,_⟩:=x;exact ⟨_,e⟩
  |ext φ=>obtain ⟨_,⟨_,e⟩,_⟩:=x;exact ⟨_,e⟩
  |_=>exact gZ mu
 obtain ⟨od,e⟩:=ex;have new:lE X.prog X.w (upd H d (.xZ od u)) s.heap d (.xZ od u):=by
  refine ⟨e,x.stay (λb v _ q=>q) (λb q=>?_) λb xs q=>?_⟩
  ·rw [aF (λz=>by rw [z,h] at q;cases q;exact mu)];exact q
  ·rw [aF (λz=>by rw [z,h] at q;cases q;exact mu)];exact q
 exact ⟨od,I.write (x:=d) (e:=d) (t':=s.toks) (h':=s.heap) (by rw [h];exact mu) (.inl rfl) (λb v _ q=>q) ⟨od,e⟩ new⟩))
theorem Inv.ahQ{d:Addr}{u:HO}(I:Inv X pins σ H s)(h:H d=some u)(mu:Mut (some u)):∀o' u',X.H_0 d≠some (.xZ o' u'):=λo' u' e=>by
 have q:=I.base.V0 d o' u' e;rw [h] at q;cases q;exact mu
theorem Inv.unlock{d:Addr}{od:Obj}{u:HO}(I:Inv X pins σ H s)(h:H d=some (.xZ od u))(hn:∀o' u',X.H_0 d≠some (.xZ o' u')):Inv X pins σ (upd H d u) s:=(by apply aj:aa (by
 have neH:∀b o,H b=some o->(∀o' u',o≠ .xZ o' u')->b≠d:=λb o e hne z=>by
  rw [z,h] at e;cases e;exact hne _ _ rfl
 have neN:∀b,H b=none->b≠d:=λb e z=>by rw [z,h] at e;cases e
 refine ⟨I.ok,I.os,I.bare,⟨I.base.keep,I.base.slot,λb o e n hx=>?_,I.base.there,λb xs e=>?_,λb o x e=>?_,λb ps e=>?_⟩,I.loc,I.cell,?_,λx c e=>?_,λp hp=>?_,λb o e=>?_,I.len⟩
 ·rw [aF (neN b (I.base.free b o e n hx))];exact I.base.free b o e n hx
 ·have q:=I.base.tups b xs e;rw [aF (neH b _ q (λ_ _ z=>nomatch z))];exact q
 ·have q:=I.base.V0 b o x e;rw [aF (λz=>by rw [z] at e;exact hn _ _ e)];exact q
 ·obtain ⟨m,q⟩:=I.base.abD b ps e;exact ⟨m,by rw [aF (neH b _ q (λ_ _ z=>nomatch z))];exact q⟩
 ·rw [aF (neN _ I.free)];exact I.free
 ·rw [aF (neN c (I.Dh x c e))];exact I.Dh x c e
 ·obtain ⟨e,n,r⟩:=I.pin p hp;exact ⟨e,by rw [aF (neN _ n)];exact n,r⟩
 ·by_cases hb:b=d
  ·rw [hb,aD] at e;cases e;rw [hb];obtain ⟨_,x⟩:=I.hok d _ h;exact x.stay (λc v _ q=>q) (λc q=>by rw [aF (neH c _ q (λ_ _ z=>nomatch z))];exact q) λc xs q=>by rw [aF (neH c _ q (λ_ _ z=>nomatch z))];exact q
  ·rw [aF hb] at e;exact (I.hok b o e).stay (λc v _ q=>q) (λc q=>by rw [aF (neH c _ q (λ_ _ z=>nomatch z))];exact q) λc xs q=>by rw [aF (neH c _ q (λ_ _ z=>nomatch z))];exact q))
end
def ahw(t:TS):TS:=λD σ H=>∃d u,H d=some u/\Mut (some u)/\∀od,t ⟨λσ' H'=>H' d=some (.xZ od u)/\D.nx σ' (upd H' d u),λv H'=>H' d=some (.xZ od u)/\D.rt v (upd H' d u),λσ' H'=>H' d=some (.xZ od u)/\D.bk σ' (upd H' d u),λσ' H'=>H' d=some (.xZ od u)/\D.ct σ' (upd H' d u)⟩ σ (upd H d (.xZ od u))
section
variable {X:Cx}
theorem ab4{st:Stmt}{t:TS}(h:PS X st t):PS X st (ahw t):=(by apply aj:aa (by
 intro pins s σ H D I hw;obtain ⟨d,u,hd,mu,hw⟩:=hw;obtain ⟨od,I1⟩:=I.lock hd mu;refine jL (h pins s σ _ _ I1 (hw od)) λf s1 q=>?_;cases f with
 |next=>obtain ⟨σ',H',I2,e,q⟩:=q;exact ⟨σ',_,I2.unlock e (I.ahQ hd mu),q⟩
 |brk=>obtain ⟨σ',H',I2,e,q⟩:=q;exact ⟨σ',_,I2.unlock e (I.ahQ hd mu),q⟩
 |cont=>obtain ⟨σ',H',I2,e,q⟩:=q;exact ⟨σ',_,I2.unlock e (I.ahQ hd mu),q⟩
 |ret v=>obtain ⟨x,σ',H',I2,r,e,q⟩:=q;exact ⟨x,σ',_,I2.unlock e (I.ahQ hd mu),r,q⟩))
theorem acd{tg:Expr}{pins:List (Addr×Obj)}{σ:St}{H:Hp}{s:Shared}{R:It->Hp->Prop}{J:It}{tn:Nat->Heap->Prop}{tk:Nat}(I:Inv X pins σ H s)(o:Obj)(T:Turn X.prog X.w X.K tg J [s.heap.objs.size] s.heap.objs.size tn)(st:tn 0 (s.heap.push o))(q:R J H):PIE X pins σ tg R (.ref s.heap.objs.size) {s with heap:=s.heap.push o,toks:=tk}:=by
 refine ⟨s.heap.objs.size,[s.heap.objs.size],tn,J,H,rfl,I.kept λb ob e=>aA _ e,T,st,λb hb=>?_,q⟩;have e:b=s.heap.objs.size:=by simpa using hb
 subst e;exact I.agC (aU _) (I.hok.fresh (aU _))
end
def Its(x:Str):It:=⟨λi _=>i<x.cps.size,λi H v H'=>H'=H/\∃c,x.cps[i]? =some c/\v= .str ⟨#[c]⟩,λi _=>x.cps.size<=i⟩
theorem adF{P:Program}{w:World}{K:az}{tg:Expr}(it:Addr)(x:Str)(t:Tok)(ty:String)(hty:ty="str_ascii_iterator"\/ty="str_iterator"):
  Turn P w K tg (Its x) [it] it (λi h=>h.IsStrIter it ty x t i) where
 mem:=by simp
 obj:=λi h st b hb=>by
  have e:b=it:=by simpa using hb
  subst e;obtain ⟨o,e,c,d⟩:=st;exact ⟨o,e,λv z=>by rw [d] at z;cases z⟩
 keep:=λi h h' st k=>let ⟨o,ho,r⟩:=st;⟨o,k it (by simp) o ho,r⟩
 item:=by
  intro X hP hw hK hc i pins s σ H E I hf st hg;subst hP hw hK;obtain ⟨f0,f1,f2,f3,f4,f5⟩:=hf it (by simp);have W:Walks X.prog X.w X.A it [it] [it] x.cps.size (SignAt x) (λi h=>h.IsStrIter it ty x t i):=by
   rcases hty with e | e
   ·rw [e];exact Walks.strAscii (I.ok.hd hc) it x t
   ·rw [e];exact Walks.strWide (I.ok.hd hc) it x t
  have hno:["enumerate","zip","dict_itemiterator","dict_reverseitemiterator","odict_iterator","itertools.zip_longest","itertools.pairwise"].contains ty=false:=by
   rcases hty with e | e
   ·rw [e];decide
   ·rw [e];decide
  refine W.item i s _ _ hg st λv h' tk hv st' kk=>?_;obtain ⟨c,u,hcx,rfl⟩:=hv;have I1:Inv X pins σ H {s with heap:=h',toks:=tk}:=I.turned (λb o hb e=>kk b o (by simpa using hb) e) f0 f1 f3 f4 f5;obtain ⟨oi,e,cc,dd⟩:=id st';exact ⟨_,rfl,ah2 (s:={s with heap:=h',toks:=tk}) e cc dd hno ⟨.str ⟨#[c]⟩,H,I1,⟨u,rfl⟩,⟨rfl,c,hcx,rfl⟩,st',λb hb=>(hf b hb).1⟩⟩
 done:=by
  intro X hP hw hK hc i pins s σ H E I hf st hg;subst hP hw hK;obtain ⟨f0,f1,f2,f3,f4,f5⟩:=hf it (by simp);have hx:x.cps[i]? =none:=xR hg;rcases hty with e | e
  ·rw [e] at st;exact wpAny_pyNext_ascii_end (I.ok.hd hc) st hx λh' eb=>⟨rfl,I.turned (t':=s.toks) (λb o hb e=>eb b o hb e) f0 f1 f3 f4 f5⟩
  ·rw [e] at st;exact wpAny_pyNext_wide_end (I.ok.hd hc) st hx λh' eb=>⟨rfl,I.turned (t':=s.toks) (λb o hb e=>eb b o hb e) f0 f1 f3 f4 f5⟩
 self:=λA i s Q E st h=>by
  rcases hty with e | e
  ·rw [e] at st;exact wpAny_pyIter_striter_ascii st h
  ·rw [e] at st;exact wpAny_pyIter_striter_wide st h
def atQ(te:TE):TI:=λσ H R=>te σ H λv H1=>∃x,v= .str x/\R (Its x) H1
theorem XC{X:Cx}{tg e:Expr}{te:TE}(he:PE X e te):PI X tg e (atQ te):=(by apply aj:aa (by
 intro pins s σ H R I h;refine jL (he pins s σ H _ I h) λv s1 ⟨y,H1,I1,r1,x,ex,q⟩=>?_;subst ex;obtain ⟨t,rfl⟩:=r1;cases ha:x.cps.all (· <128)
 ·exact wpAny_pyIter_wide ha (acd (tk:=s1.toks) I1 _ (adF _ x t "str_iterator" (.inr rfl)) ⟨_,aR _ rfl,rfl,rfl⟩ q)
 ·exact wpAny_pyIter_ascii ha (acd (tk:=s1.toks) I1 _ (adF _ x t "str_ascii_iterator" (.inl rfl)) ⟨_,aR _ rfl,rfl,rfl⟩ q)))
theorem agq{κ:Type}{kvs:List (κ×V)}{vs:List (κ×Value)}(h:KV kvs vs):∀{i:Nat} {k:κ} {v:V},kvs[i]? =some (k,v)->∃u,vs[i]? =some (k,u)/\RelV v u:=(by apply aj:aa (by
 unfold KV at h
 induction h with
 |nil=>intro i k v e;simp at e
 |@cons a b l₁ l₂ r t ih=>
  intro i k v e;cases i with
  |zero=>
   simp only [ahh,aP.injEq] at e;subst e;refine ⟨b.2,?_,r.2⟩;simp only [ahh];exact congrArg some (Prod.ext r.1.symm rfl)
  |succ j=>
   simp only [ahi] at e⊢;exact ih e))
theorem ad2{k:Key}{u:Value}(h:K4 k u=true):RelV (kV k) u:=by
 rcases kZ h with ⟨i,t,rfl,rfl⟩ | ⟨x,t,rfl,rfl⟩
 ·exact ⟨t,rfl⟩
 ·exact ⟨t,rfl⟩
section
variable {X:Cx} {pins:List (Addr×Obj)} {σ:St} {H:Hp} {s:Shared} {d:Addr} {o:Obj}
theorem Inv.ajH{kvs:List (Key×V)}(I:Inv X pins σ H s)(h:H d=some (.xZ o (.dK kvs))):
  (d==sysModules)=false/\s.heap.get? d=some o/\o.ExactDict/\∃(es:Array DictEntry) (ep:Nat) (vs:List (Key×Value)),o.data= .dict es ep/\es.size=kvs.length/\KV kvs vs/\s.heap.DictAt (fY X.prog X.w) d vs ep:=by
 obtain ⟨hd,z,hs,vs,kv,o',es,ep,ho,hx,hdt,r⟩:=I.hok d _ h;rw [hd] at ho;cases ho;refine ⟨hs,hd,hx,es,ep,vs,hdt,?_,kv,o,es,hd,hx,hdt,r⟩;have l1:=r.2.1.length;have l2:kvs.length=vs.length:=jy kv;rw [gb] at l1;omega
end
def Itd(d:Addr)(o:Obj)(kvs:List (Key×V)):It:=
 ⟨λi H=>H d=some (.xZ o (.dK kvs))/\i<kvs.length,λi H x H'=>H'=H/\∃k,kvs[i]? =some (k,x),λi H=>H d=some (.xZ o (.dK kvs))/\kvs.length<=i⟩
def Iti(d:Addr)(o:Obj)(kvs:List (Key×V)):It:=
 ⟨λi H=>H d=some (.xZ o (.dK kvs))/\i<kvs.length,λi H x H'=>∃T k v,kvs[i]? =some (k,v)/\x= .ref T/\H T=none/\H'=upd H T (.tup [kV k,v]),λi H=>H d=some (.xZ o (.dK kvs))/\kvs.length<=i⟩
theorem Wh{o:Obj}{es es':Array DictEntry}{ep ep':Nat}(h:o.data= .dict es ep)(h':o.data= .dict es' ep'):es'=es/\ep'=ep:=by
 rw [h] at h';cases h';exact ⟨rfl,rfl⟩
section
variable {P:Program} {w:World} {K:az} {tg:Expr} {d:Addr} {o:Obj} {es:Array DictEntry} {ep:Nat}
theorem aiF{kvs:List (Key×V)}(it:Addr)(hod:o.data= .dict es ep):Turn P w K tg (Itd d o kvs) [it] it (λi h=>h.IsValIter it d i kvs.length ep) where
 mem:=by simp
 obj:=λi h st b hb=>by
  have e:b=it:=by simpa using hb
  subst e;obtain ⟨oi,e,c,dd⟩:=st;exact ⟨oi,e,λv z=>by rw [dd] at z;cases z⟩
 keep:=λi h h' st k=>st.at λoi e=>k it (by simp) oi e
 item:=by
  intro X hP hw hK hc i pins s σ H E I hf st hg;subst hP hw hK;obtain ⟨hd,hi⟩:=hg;obtain ⟨f0,f1,f2,f3,f4,f5⟩:=hf it (by simp);obtain ⟨hs,hgd,hx,es',ep',vs,hdt,hsz,kv,hm⟩:=I.ajH hd;obtain ⟨rfl,rfl⟩:=Wh hod hdt;obtain ⟨⟨k,v⟩,hkv⟩:∃p,kvs[i]? =some p:=⟨kvs[i],ak hi⟩;obtain ⟨u,hu,ru⟩:=agq kv hkv;have hl:kvs.length=vs.length:=jy kv;rw [hl] at st;refine wpAny_pyNext_values_item st hm hu λh' st' sb=>?_;have I1:Inv X pins σ H {s with heap:=h'}:=I.turned (t':=s.toks) (λb ob hb e=>(sb.2 b hb).trans e) f0 f1 f3 f4 f5;obtain ⟨oi,e,c,dd⟩:=id st';refine ⟨u,rfl,ah2 (s:={s with heap:=h'}) e c dd (by decide) ⟨v,H,I1,ru,⟨rfl,k,hkv⟩,?_,λb hb=>(hf b hb).1⟩⟩;show h'.IsValIter it d (i+1) kvs.length _;rw [hl];exact st'
 done:=by
  intro X hP hw hK hc i pins s σ H E I hf st hg;subst hP hw hK;obtain ⟨hd,hi⟩:=hg;obtain ⟨f0,f1,f2,f3,f4,f5⟩:=hf it (by simp);obtain ⟨hs,hgd,hx,es',ep',vs,hdt,hsz,kv,hm⟩:=I.ajH hd;obtain ⟨rfl,rfl⟩:=Wh hod hdt;have hl:kvs.length=vs.length:=jy kv;rw [hl] at st;exact wpAny_pyNext_values_end (I.ok.hd hc) st hm (gY (by omega)) λh' eb=>⟨rfl,I.turned (t':=s.toks) (λb ob hb e=>eb b ob hb e) f0 f1 f3 f4 f5⟩
 self:=λA i s Q E st h=>wpAny_pyIter_valiter st h
theorem afL{kvs:List (Key×V)}{elts:List Expr}{kk:Nat}{tpos:Pos}(it:Addr)(hod:o.data= .dict es ep):
  Turn P w K (.Tuple elts kk tpos) (Iti d o kvs) [it] it (λi h=>∃ok ov,IsItemIter h it d i kvs.length ep ok ov) where
 mem:=by simp
 obj:=λi h st b hb=>by
  have e:b=it:=by simpa using hb
  subst e;obtain ⟨ok,ov,e⟩:=st;exact ⟨_,e,λv z=>nomatch z⟩
 keep:=λi h h' st k=>let ⟨ok,ov,e⟩:=st;⟨ok,ov,k it (by simp) _ e⟩
 item:=by
  intro X hP hw hK hc i pins s σ H E I hf st hg;subst hP hw hK;obtain ⟨hd,hi⟩:=hg;obtain ⟨hs,hgd,hx,es',ep',vs,hdt,hsz,kv,hm⟩:=I.ajH hd;obtain ⟨rfl,rfl⟩:=Wh hod hdt;obtain ⟨⟨k,v⟩,hkv⟩:∃p,kvs[i]? =some p:=⟨kvs[i],ak hi⟩;obtain ⟨u,hu,ru⟩:=agq kv hkv;have hl:kvs.length=vs.length:=jy kv;obtain ⟨ok,ov,he⟩:=st;rw [hl] at he;have hlt:it<s.heap.objs.size:=aZ he;refine wpAny_pyNext_items_item he hm hu λkey h' hkey ho hT hz hk=>?_;refine ⟨_,rfl,wpAny_letOwnedTupleGo_items (s:={s with heap:=h'}) ho λh'' he' sb=>?_⟩;have hT2:h''.get? s.heap.objs.size=some {cls:=.type "tuple",data:=.seq #[key,u]}:=(sb.2 _ (j7 hlt)).trans hT;have new:lE X.prog X.w (upd H s.heap.objs.size (.tup [kV k,v])) h'' s.heap.objs.size (.tup [kV k,v]):=
   ⟨by show 2<=sizeLine;decide,[key,u],.cons (ad2 (show K4 k key=true from hkey)) (.cons ru .nil),⟨_,hT2,rfl,_,rfl⟩⟩
  have I1:Inv X pins σ (upd H s.heap.objs.size (.tup [kV k,v])) {s with heap:=h''}:=
   I.MN (t':=s.toks) (ch:=[it]) (λb ob hb e=>(sb.2 b (by simpa using hb)).trans (hk b ob (by simpa using hb) e)) hf (aU _) new
  refine ⟨.ref s.heap.objs.size,_,I1,rfl,⟨_,k,v,hkv,rfl,I.hok.fresh (aU _),rfl⟩,⟨key,u,?_⟩,λb hb=>?_⟩
  ·rw [hl];exact he'
  ·have e:b=it:=by simpa using hb
   rw [e,aF (b8 hlt)];exact (hf it (by simp)).1
 done:=by
  intro X hP hw hK hc i pins s σ H E I hf st hg;subst hP hw hK;obtain ⟨hd,hi⟩:=hg;obtain ⟨f0,f1,f2,f3,f4,f5⟩:=hf it (by simp);obtain ⟨hs,hgd,hx,es',ep',vs,hdt,hsz,kv,hm⟩:=I.ajH hd;obtain ⟨rfl,rfl⟩:=Wh hod hdt;have hl:kvs.length=vs.length:=jy kv;obtain ⟨ok,ov,he⟩:=st;rw [hl] at he;exact wpAny_pyNext_items_end (I.ok.hd hc) he hm (gY (by omega)) λh' eb=>⟨rfl,I.turned (t':=s.toks) (λb ob hb e=>eb b ob hb e) f0 f1 f3 f4 f5⟩
 self:=λA i s Q E st h=>let ⟨_,_,e⟩:=st;PySem.W.kcp_self e h
end
def aoh(td:TE):TI:=λσ H R=>td σ H λx H1=>∃d o kvs,x= .ref d/\H1 d=some (.xZ o (.dK kvs))/\R (Itd d o kvs) H1
def ape(td:TE):TI:=λσ H R=>td σ H λx H1=>∃d o kvs,x= .ref d/\H1 d=some (.xZ o (.dK kvs))/\R (Iti d o kvs) H1
section
variable {X:Cx} {tg e:Expr} {td:TE} {apos cpos:Pos}
theorem ai1(he:PE X e td)(hbase:attributeBase e "values" X.env (eval e X.env)=eval e X.env:=by rfl)(hline:(apos.endLine==cpos.line)=true:=by rfl):PI X tg (.Call (.Attribute e "values" apos) [] [] cpos) (aoh td):=(by apply aj:aa (by
 intro pins s σ H R I h;refine wpAny_Call_method (T:="dict") (id:="dict.values") hbase rfl hline Ww F.slot_dict_values F.type_dict_values (jL (he pins s σ H _ I h) λu s1 ⟨x,H1,I1,rx,d,o,kvs,ex,hd,q⟩=>?_);subst ex;obtain rfl:u=dX d:=rx;obtain ⟨hs,hgd,hx,es,ep,vs,hdt,hsz,kv,hm⟩:=I1.ajH hd;have hl:kvs.length=vs.length:=jy kv;refine ⟨hm.dictOf.typeIs,hm.dictOf.mapOf.noDict,?_⟩;have I2:Inv X pins σ H1 {s1 with heap:=s1.heap.push {cls:=.type "dict_values",data:=.fields #[.ref d]}}:=I1.kept (t':=s1.toks) λb ob q=>aA _ q;have fin:wpAny (model X.prog X.w) X.A (pyIter (.ref s1.heap.objs.size)) (PIE X pins σ tg R) X.xe {s1 with heap:=s1.heap.push {cls:=.type "dict_values",data:=.fields #[.ref d]}}:=by
  refine wpAny_pyIter_values (d:=d) (knd:=fY X.prog X.w) ⟨_,aR _ rfl,rfl,rfl⟩ (hm.push _) (acd (tk:=s1.toks) I2 _ (aiF _ hdt) ⟨_,aR _ rfl,rfl,?_⟩ q);rw [hl]<;>rfl
 show wpAny _ _ (callWith cpos (.builtin "dict.values") [.ref d] [] []) _ X.xe s1;exact method_meetsIn F.slot_dict_values F.entry_dict_values rfl (SQ ⟨rfl,hm.dictOf.typeIs,F.args_dict_values_1 _,_,meets_dict_values (fY X.prog X.w) d hs,⟨vs,hm.dictOf⟩,fin⟩)))
theorem aea{elts:List Expr}{kk:Nat}{tpos:Pos}(he:PE X e td)(hbase:attributeBase e "items" X.env (eval e X.env)=eval e X.env:=by rfl)(hline:(apos.endLine==cpos.line)=true:=by rfl):
  PI X (.Tuple elts kk tpos) (.Call (.Attribute e "items" apos) [] [] cpos) (ape td):=(by apply aj:aa (by
 intro pins s σ H R I h;refine wpAny_Call_method (T:="dict") (id:="dict.items") hbase rfl hline Ww Jm F.type_dict_items (jL (he pins s σ H _ I h) λu s1 ⟨x,H1,I1,rx,d,o,kvs,ex,hd,q⟩=>?_);subst ex;obtain rfl:u=dX d:=rx;obtain ⟨hs,hgd,hx,es,ep,vs,hdt,hsz,kv,hm⟩:=I1.ajH hd;have hl:kvs.length=vs.length:=jy kv;refine ⟨hm.dictOf.typeIs,hm.dictOf.mapOf.noDict,?_⟩;have I2:Inv X pins σ H1 {s1 with heap:=s1.heap.push {cls:=.type "dict_items",data:=.fields #[.ref d]}}:=I1.kept (t':=s1.toks) λb ob q=>aA _ q;have fin:wpAny (model X.prog X.w) X.A (pyIter (.ref s1.heap.objs.size)) (PIE X pins σ (.Tuple elts kk tpos) R) X.xe {s1 with heap:=s1.heap.push {cls:=.type "dict_items",data:=.fields #[.ref d]}}:=by
  refine wpAny_pyIter_items (d:=d) (knd:=fY X.prog X.w) ⟨_,aR _ rfl,rfl,rfl⟩ (hm.push _) (acd (tk:=s1.toks) I2 _ (afL _ hdt) ⟨.none,.none,?_⟩ q);rw [hl];exact aR _ rfl
 show wpAny _ _ (callWith cpos (.builtin "dict.items") [.ref d] [] []) _ X.xe s1;exact method_meetsIn Jm F.entry_dict_items rfl (SQ ⟨rfl,hm.dictOf.typeIs,F.args_dict_items_1 _,_,meets_dict_items (fY X.prog X.w) d hs,⟨vs,hm.dictOf⟩,fin⟩)))
end
theorem abj:bootBuiltins "zip"=some (.type "zip"):=by decide+kernel
def Itz(K:az)(a b:Addr):It:=
 ⟨λi H=>∃(xs ys:List V) (x y:V),cY K H a xs/\cY K H b ys/\xs[i]? =some x/\ys[i]? =some y,
  λi H v H'=>∃T x y,v= .ref T/\H T=none/\H'=upd H T (.tup [x,y])/\(∀xs,cY K H a xs->xs[i]? =some x)/\∀ys,cY K H b ys->ys[i]? =some y,
  λi H=>∃xs ys:List V,cY K H a xs/\cY K H b ys/\(xs.length<=i\/ys.length<=i)⟩
theorem akT{P:Program}{w:World}{K:az}{elts:List Expr}{kk:Nat}{tpos:Pos}{a b z TI TO i1 i2:Addr}(D:ZipApart z TI TO i1 i2 a b):
  Turn P w K (.Tuple elts kk tpos) (Itz K a b) [z,TI,TO,i1,i2] z (λi h=>IsZip h z TI TO .none/\IsPair h TI (.ref i1) (.ref i2)/\(∃x y,IsPair h TO x y)/\h.IsListIter i1 a i/\h.IsListIter i2 b i) where
 mem:=by simp
 obj:=λi h st c hc=>by
  obtain ⟨hz,hTI,⟨x,y,hTO⟩,⟨o1,e1,_,d1⟩,⟨o2,e2,_,d2⟩⟩:=st;have e':c=z\/c=TI\/c=TO\/c=i1\/c=i2:=by simpa using hc
  rcases e' with q | q | q | q | q
  ·rw [q];exact ⟨_,hz,λv q=>nomatch q⟩
  ·rw [q];exact ⟨_,hTI,λv q=>nomatch q⟩
  ·rw [q];exact ⟨_,hTO,λv q=>nomatch q⟩
  ·rw [q];exact ⟨o1,e1,λv q=>by rw [d1] at q;cases q⟩
  ·rw [q];exact ⟨o2,e2,λv q=>by rw [d2] at q;cases q⟩
 keep:=λi h h' st k=>by
  obtain ⟨hz,hTI,⟨x,y,hTO⟩,h1,h2⟩:=st;exact ⟨k z (by simp) _ hz,k TI (by simp) _ hTI,⟨x,y,k TO (by simp) _ hTO⟩,h1.at λo q=>k i1 (by simp) o q,h2.at λo q=>k i2 (by simp) o q⟩
 item:=by
  intro X hP hw hK hc i pins s σ H E I hf st hg;subst hP hw hK;obtain ⟨hz,hTI,⟨x0,y0,hTO⟩,h1,h2⟩:=st;obtain ⟨xs,ys,x,y,hqx,hqy,hx,hy⟩:=hg;obtain ⟨its,rv,p,_⟩:=I.list hqx;obtain ⟨its2,rv2,p2,_⟩:=I.list hqy;obtain ⟨u,hu,ru⟩:=rv.get hx;obtain ⟨u2,hu2,ru2⟩:=rv2.get hy;have hzl:z<s.heap.objs.size:=aZ hz;refine wpAny_pyNext_zip_item D hz hTI hTO h1 h2 p.isList p2.isList (x:=u) (y:=u2) (by simpa using hu) (by simpa using hu2) λh' z' TO' h1' h2' hT hsz hk=>?_;refine ⟨_,rfl,wpAny_letOwnedTupleGo_zip (s:={s with heap:=h'}) z' λh'' z'' sb=>?_⟩;have hT2:h''.get? s.heap.objs.size=some {cls:=.type "tuple",data:=.seq #[u,u2]}:=(sb.2 _ (j7 hzl)).trans hT;have new:lE X.prog X.w (upd H s.heap.objs.size (.tup [x,y])) h'' s.heap.objs.size (.tup [x,y]):=
   ⟨by show 2<=sizeLine;decide,[u,u2],.cons ru (.cons ru2 .nil),⟨_,hT2,rfl,_,rfl⟩⟩
  have I1:Inv X pins σ (upd H s.heap.objs.size (.tup [x,y])) {s with heap:=h''}:=
   I.MN (t':=s.toks) (ch:=[z,TI,TO,i1,i2]) (λc o hb q=>(sb.2 c (λq'=>hb (by simp [q']))).trans (hk c o (λq'=>hb (by simp [q'])) (λq'=>hb (by simp [q'])) (λq'=>hb (by simp [q'])) (λq'=>hb (by simp [q'])) q)) hf (aU _) new
  refine ⟨.ref s.heap.objs.size,_,I1,rfl,⟨_,x,y,rfl,I.hok.fresh (aU _),rfl,λl hl=>by rw [I.Bm hl hqx];exact hx,λl hl=>by rw [I.Bm hl hqy];exact hy⟩,⟨z'',?_,⟨u,u2,?_⟩,?_,?_⟩,λc hcm=>?_⟩
  ·exact (sb.2 _ D.TIz).trans (hk _ _ D.TIz D.TITO D.TIi1 D.TIi2 hTI)
  ·exact (sb.2 _ D.TOz).trans TO'
  ·exact h1'.at λo q=>(sb.2 _ D.i1z).trans q
  ·exact h2'.at λo q=>(sb.2 _ D.i2z).trans q
  ·have hlt:c<s.heap.objs.size:=by
    have e':c=z\/c=TI\/c=TO\/c=i1\/c=i2:=by simpa using hcm
    rcases e' with q | q | q | q | q
    ·rw [q];exact hzl
    ·rw [q];exact aZ hTI
    ·rw [q];exact aZ hTO
    ·rw [q];obtain ⟨_,e1,_⟩:=h1;exact aZ e1
    ·rw [q];obtain ⟨_,e2,_⟩:=h2;exact aZ e2
   rw [aF (b8 hlt)];exact (hf c hcm).1
 done:=by
  intro X hP hw hK hc i pins s σ H E I hf st hg;subst hP hw hK;obtain ⟨hz,hTI,⟨x0,y0,hTO⟩,h1,h2⟩:=st;obtain ⟨xs,ys,hqx,hqy,hend⟩:=hg;obtain ⟨its,rv,p,_⟩:=I.list hqx;obtain ⟨its2,rv2,p2,_⟩:=I.list hqy;have l1:=rv.length;have l2:=rv2.length;have he:its.toArray[i]? =none\/its2.toArray[i]? =none:=by
   rcases hend with q | q
   ·exact .inl (by simp;omega)
   ·exact .inr (by simp;omega)
  exact wpAny_pyNext_zip_end (I.ok.hd hc) D hz hTI hTO h1 h2 p.isList p2.isList he λh' hk=>⟨rfl,I.aht (t':=s.toks) (ch:=[z,TI,TO,i1,i2]) (λc o hb q=>
   hk c o (λq'=>hb (by simp [q'])) (λq'=>hb (by simp [q'])) (λq'=>hb (by simp [q'])) (λq'=>hb (by simp [q'])) q) hf⟩
 self:=λA i s Q E st h=>wpAny_pyIter_zip st.1 h
def atO(K:az)(ta:TA):TI:=λσ H R=>ta σ H λvs H1=>∃a b xs ys,vs=[.ref a,.ref b]/\cY K H1 a xs/\cY K H1 b ys/\R (Itz K a b) H1
theorem Xz{X:Cx}{e e2:Expr}{ta:TA}{p pos tpos:Pos}{elts:List Expr}{kk:Nat}(hg:Gl X "zip")(hm:X.mg "zip"=none)(ha:PA X [e,e2] ta)(hs:starEach [e,e2] X.env=(false,eval e X.env)::starEach [e2] X.env:=by rfl)(hpl:(backTo pos (starEach [e2] X.env)).any (·.1)=false:=by rfl):
  PI X (.Tuple elts kk tpos) (.Call (.Name "zip" p) [e,e2] [] pos) (atO X.K ta):=(by apply aj:aa (by
 intro pins s σ H R I h;refine Call_ (KZ I hg hm abj (lH (jL (ha pos pins s σ H _ I h) λus s1 ⟨vs,H1,I1,r1,q1⟩=>?_) hs hpl));obtain ⟨a,b,xs,ys,ex,hqx,hqy,q⟩:=q1;subst ex;cases r1 with
 |cons r rr=>
  cases rr with
  |cons r' rr=>
   cases rr;cases r;cases r';obtain ⟨its,rv,p1,_⟩:=I1.list hqx;obtain ⟨its2,rv2,p2,_⟩:=I1.list hqy;have la:a<s1.heap.objs.size:=p1.lt;have lb:b<s1.heap.objs.size:=p2.lt;refine call_zip_2 p1.isList p2.isList λh' hz hTI hTO h1 h2 hsz hk=>wpAny_pyIter_zip hz ?_;have I2:Inv X pins σ H1 {s1 with heap:=h'}:=I1.kept (t':=s1.toks) hk;refine ⟨s1.heap.objs.size+4,[s1.heap.objs.size+4,s1.heap.objs.size+2,s1.heap.objs.size+3,s1.heap.objs.size,s1.heap.objs.size+1],_,_,H1,rfl,I2,akT (PySem.W.ktu_apart s1.heap.objs.size a b la lb),⟨hz,hTI,⟨_,_,hTO⟩,h1,h2⟩,λc hcm=>?_,q⟩;have e':c=s1.heap.objs.size+4\/c=s1.heap.objs.size+2\/c=s1.heap.objs.size+3\/c=s1.heap.objs.size\/c=s1.heap.objs.size+1:=by simpa using hcm
   have hle:s1.heap.objs.size<=c:=by
    rcases e' with z | z | z | z | z
    ·rw [z];exact gU _ _
    ·rw [z];exact gU _ _
    ·rw [z];exact gU _ _
    ·rw [z];exact aU _
    ·rw [z];exact gU _ _
   exact I1.agC hle (I1.hok.fresh hle)))
end L2
section
namespace TL
open PySem PySem.Builtin PySem.Builtin.Str PySem.StrLaws
abbrev tl(x:Str):List Nat:=x.cps.toList
theorem T4(x:Str):x.length=(tl x).length:=by simp [tl,Str.length]
theorem agK{x y:Str}(h:tl x=tl y):x=y:=Str.ext' (Array.toList_inj.mp h)
theorem Ti(x y:Str):tl (x++y)=tl x++tl y:=by
 show (x++y).cps.toList=_;rw [Str.cps_append,Array.toList_append]
theorem Yb:∀{l m:List Str},l.map tl=m.map tl->l=m
 |[],[],_=>rfl
 |[],_::_,h=>by simp at h
 |_::_,[],h=>by simp at h
 |x::l,y::m,h=>by
  rw [bu,bu] at h;injection h with h1 h2
  rw [agK h1,Yb h2]
theorem adG(s:String):tl (bA s)=s.toList.map Vx:=PyProof.Rows.signs_ofString s
def pre(S l:List Nat):Bool:=l.take S.length==S
noncomputable def Jo (S:List Nat):Nat->List Nat->List Nat->List (List Nat)
 |_,acc,[]=>[acc]
 |0,acc,c::r=>if pre S (c::r)=true then acc::Jo S (S.length - 1) [] r else Jo S 0 (acc++[c]) r
 |k+1,acc,_::r=>Jo S k acc r
noncomputable def par (S:List Nat):List Nat->List Nat->Option (List Nat×List Nat)
 |_,[]=>none
 |acc,c::r=>if pre S (c::r)=true then some (acc,(c::r).drop S.length) else par S (acc++[c]) r
theorem V8(S:List Nat)(k:Nat)(acc:List Nat):Jo S k acc []=[acc]:=by cases k<;>rfl
theorem abL{S acc r:List Nat}{c:Nat}(h:pre S (c::r)=true):Jo S 0 acc (c::r)=acc::Jo S (S.length - 1) [] r:=by
 show (if pre S (c::r)=true then acc::Jo S (S.length - 1) [] r else Jo S 0 (acc++[c]) r)=_;rw [if_pos h]
theorem W6{S acc r:List Nat}{c:Nat}(h:pre S (c::r)=false):Jo S 0 acc (c::r)=Jo S 0 (acc++[c]) r:=by
 show (if pre S (c::r)=true then acc::Jo S (S.length - 1) [] r else Jo S 0 (acc++[c]) r)=_;rw [if_neg (by rw [h];exact cu)]
theorem adJ(S:List Nat):∀(k:Nat) (acc l:List Nat),Jo S k acc l=Jo S 0 acc (l.drop k)
 |0,_,_=>by rw [oG]
 |k+1,acc,[]=>by rw [List.drop_nil,V8,V8]
 |k+1,acc,c::r=>by
  show Jo S k acc r=Jo S 0 acc (r.drop k);exact adJ S k acc r
theorem am1{S:List Nat}(hS:S≠[]):pre S []=false:=by
 cases S with
 |nil=>exact absurd rfl hS
 |cons s S=>rfl
theorem ad6{s c:Nat}(S r:List Nat)(h:c≠s):pre (s::S) (c::r)=false:=by
 cases hp:pre (s::S) (c::r) with
 |false=>rfl
 |true=>
  have e:(c::r).take (s::S).length=s::S:=eq_of_beq hp;rw [aH,List.take_succ_cons] at e;injection e with e1 e2
  exact absurd e1 h
theorem RN{L:List Nat}{a:Nat}(h:a<L.length):∃c,L.drop a=c::L.drop (a+1):=⟨L[a],List.drop_eq_getElem_cons h⟩
theorem abK(S L:List Nat):∀(m a:Nat) (acc:List Nat),a+m<=L.length->(∀k,a<=k->k<a+m->pre S (L.drop k)=false)->
  Jo S 0 acc (L.drop a)=Jo S 0 (acc++(L.drop a).take m) (L.drop (a+m))
 |0,a,acc,_,_=>by rw [List.take_zero,iw,Ws]
 |m+1,a,acc,h,hn=>by
  have hlt:a<L.length:=by omega
  obtain ⟨c,e⟩:=RN hlt;have h0:=hn a (aU _) (by omega);have ih:=abK S L m (a+1) (acc++[c]) (by omega) (λk h1 h2=>hn k (by omega) (by omega));have e2:a+1+m=a+(m+1):=by omega
  rw [e2] at ih;rw [e] at h0;rw [e,W6 h0,ih,List.take_succ_cons,mZ]<;>rfl
theorem amf(L:List Nat)(a b:Nat):(L.drop a).drop b=L.drop (a+b):=by
 first
  |rw [gO]
  |rw [gO,Wt]
theorem aoL{S L:List Nat}(hS:S≠[]){c:Nat}{acc:List Nat}(h:pre S (L.drop c)=true):Jo S 0 acc (L.drop c)=acc::Jo S 0 [] (L.drop (c+S.length)):=by
 rw [<-amf];cases e:L.drop c with
 |nil=>rw [e,am1 hS] at h;cases h
 |cons d r=>
  rw [e] at h;rw [abL h,adJ];cases S with
  |nil=>exact absurd rfl hS
  |cons s S=>rfl
theorem amm{x y:Str}(hy:tl y≠[])(i:Nat):At x y x.length i↔pre (tl y) ((tl x).drop i)=true:=by
 have hx:=T4 x;have hl:=T4 y;constructor
 ·intro h;have h2:=h.2;rw [subAt_eq,hl] at h2;exact h2
 ·intro h;have e:((tl x).drop i).take (tl y).length=tl y:=eq_of_beq h;have e1:=congrArg wu e;rw [bO,cA] at e1;have e2:0<(tl y).length:=S8.mpr hy;refine ⟨by omega,?_⟩;rw [subAt_eq,hl];exact h
theorem aob{x y:Str}(hy:tl y≠[]){i:Nat}(h:¬At x y x.length i):pre (tl y) ((tl x).drop i)=false:=by
 cases hp:pre (tl y) ((tl x).drop i) with
 |false=>rfl
 |true=>exact absurd ((amm hy i).mpr hp) h
theorem yH{y:Str}(hy:tl y≠[]):1<=y.length:=by
 have e2:0<(tl y).length:=S8.mpr hy;rw [T4 y];exact e2
theorem aaT(x:Str)(i j:Nat):tl (strSub x i j)=((tl x).drop i).take (j - i):=strSub_toList x i j
theorem ZR(x:Str)(i:Nat):tl (strSub x i x.length)=(tl x).drop i:=by
 rw [aaT,T4 x];exact dR (by rw [cA]<;>omega)
theorem aaZ{x y:Str}(hy:tl y≠[]):∀(cuts:List Nat) (a f:Nat),a<=(tl x).length->ChainG x y x.length a cuts f->(∀k,f<=k->¬At x y x.length k)->
  (partsFrom x y.length a cuts).map tl=Jo (tl y) 0 [] ((tl x).drop a)
 |[],a,f,ha,h,hn=>by
  have e:f=a:=h;subst e;show [tl (strSub x f x.length)]=_;have run:=abK (tl y) (tl x) ((tl x).length - f) f [] (by omega) (λk h1 _=>aob hy (hn k h1));have e2:f+((tl x).length - f)=(tl x).length:=by omega
  rw [e2,List.drop_length,V8,mO,dR (by rw [cA]<;>omega)] at run;rw [run,ZR]
 |c::r,a,f,ha,h,hn=>by
  obtain ⟨h1,h2,h3,h4⟩:=h;have hc:c+y.length<=x.length:=h2.1;have hx:=T4 x;have hl:=T4 y;have ih:=aaZ hy r (c+y.length) f (by omega) h4 hn;show tl (strSub x a c)::(partsFrom x y.length (c+y.length) r).map tl=_;have run:=abK (tl y) (tl x) (c - a) a [] (by omega) (λk k1 k2=>aob hy (h3 k k1 (by omega)));have e2:a+(c - a)=c:=by omega
  rw [e2,mO,aoL hy ((amm hy c).mp h2)] at run;rw [run,ih,aaT,hl]
theorem aiL(x y:Str)(hy:tl y≠[])(hk:¬iU x<iU y):(yW x y).map tl=Jo (tl y) 0 [] (tl x):=(by apply aj:aa (by
 obtain ⟨f,g,hn⟩:=occ_tight x y (yH hy);have key:=aaZ hy _ 0 f (eX _) g hn;rw [oG] at key;have aa0:occurrences x y 0 x.length (x.length+1)=[]->[x].map tl=Jo (tl y) 0 [] (tl x):=λho=>by
  rw [ho] at key;rw [<-key];show [tl x]=[tl (strSub x 0 x.length)];rw [sub_whole]
 unfold yW;by_cases h1:(decide (x.length<y.length) || decide (iU x<iU y))=true
 ·rw [if_pos h1];have hlt:x.length<y.length:=by
   simp only [Cy,decide_eq_true_eq] at h1;rcases h1 with h | h
   ·exact h
   ·exact absurd h hk
  refine aa0 ?_;cases ho:occurrences x y 0 x.length (x.length+1) with
  |nil=>rfl
  |cons c r=>
   rw [ho] at g;have hc:c+y.length<=x.length:=g.2.1.1;omega
 ·rw [if_neg h1];by_cases h2:(occurrences x y 0 x.length (x.length+1)).isEmpty=true
  ·rw [if_pos h2];exact aa0 (zc.mp h2)
  ·rw [if_neg h2,partsBetween_eq];exact key))
theorem anl{x y:Str}(h:y.cps.all (· <256)=true):¬iU x<iU y:=by
 have e:iU y=1:=by unfold afm;rw [if_pos h]
 rw [e];unfold afm;split
 ·omega
 ·split<;>omega
noncomputable def aeH (S:List Nat):List (List Nat)->List Nat
 |[]=>[]
 |[p]=>p
 |p::q::r=>p++(S++aeH S (q::r))
theorem ahu(y:Str):∀parts:List Str,tl (Str.join y parts)=aeH (tl y) (parts.map tl)
 |[]=>rfl
 |[_]=>rfl
 |x::z::r=>by
  show tl (x++y++Str.join y (z::r))=tl x++(tl y++aeH (tl y) ((z::r).map tl));rw [Ti,Ti,ahu y (z::r),mZ]
theorem join_eq(y:Str)(parts:List Str):aky y parts=Str.join y parts:=glued_eq_join y parts
end TL
end
namespace L2
open PySem PySem.Spec PyProof.Rows
theorem aaQ:∀l:List (Str×Tok),Vals ((l.map (·.1)).map V.str) (strValues l)
 |[]=>.nil
 |p::r=>.cons ⟨p.2,rfl⟩ (aaQ r)
theorem GF:∀{ys:List Str} {us:List Value},Vals (ys.map V.str) us->StrsAre us ys
 |[],_,.nil=>.nil
 |y::ys,_,.cons r t=>by
  obtain ⟨k,rfl⟩:=r;exact .cons y k (GF t)
def Xm(ys:List Str):Hp->VK->Prop:=λH Q=>∀p,H p=none->Q (.ref p) (upd H p (.lst (ys.map V.str)))
section
variable {X:Cx} {pins:List (Addr×Obj)} {σ:St} {H:Hp} {s:Shared} {Q:VK}
theorem T6{l:List (Str×Tok)}{ys:List Str}{k:Nat}(I:Inv X pins σ H s)(e:l.map (·.1)=ys)(hz:ys.length<=sizeLine)(h:Xm ys H Q):
  EP X pins σ Q (.ref s.heap.objs.size) {s with toks:=k,heap:=s.heap.push {cls:=.type "list",data:=.seq (strValues l).toArray}}:=by
 have hp:=I.hok.fresh (aU _);refine ⟨.ref s.heap.objs.size,upd H s.heap.objs.size (.lst (ys.map V.str)),I.laid (λb u q=>aA _ q) (aU _) ⟨by rw [ao];exact hz,strValues l,_,?_,aR _ rfl⟩,rfl,h _ hp⟩;rw [<-e];exact aaQ l
end
section
variable {X:Cx}
theorem alv:MtR X "str.split" (λx xs H Q=>∃a b,x= .str a/\xs=[.str b]/\(b.length==0)=false/\a.length+2<=sizeLine/\Xm (yW a b) H Q):=(by apply aj:aa (by
 intro pins s σ H x xs v us Q I rx rs h;obtain ⟨a,b,rfl,rfl,hb,hz,h⟩:=h;obtain ⟨t,rfl⟩:=rx;cases rs with
 |cons r1 rs=>
  cases rs;obtain ⟨u,rfl⟩:=r1;have hl:(yW a b).length<=sizeLine:=aY (PyProof.Rows.split_le a b) hz;have hn:(afC a (J1 a b 0 a.length (a.length+1)) b.length).length<=sizeLine:=by
   have e1:=StrLaws.occ_length_le a b 0 a.length (a.length+1);rw [length_partsBetween];omega
  cases h1:(decide (a.length<b.length) || decide (iU a<iU b))
  ·cases hf:(J1 a b 0 a.length (a.length+1)).isEmpty
   ·refine call_meets JZ (typeIs_str _ _ _) Wx (Vw _ _) (meets_str_split_sep a b t u h1 hb hf (by omega) hn) ?_;show EP X pins σ Q (.ref s.heap.objs.size) {s with toks:=_,heap:=s.heap.push {cls:=.type "list",data:=.seq (strsFrom s.toks (afC a (J1 a b 0 a.length (a.length+1)) b.length)).toArray}};rw [strsFrom_eq];exact T6 (ys:=yW a b) I ((numbered_texts _ _).trans ((if_neg (ne_true_of_eq_false h1)).trans (if_neg (ne_true_of_eq_false hf))).symm) hl h
   ·refine call_meets JZ (typeIs_str _ _ _) Wx (Vw _ _) (meets_str_split_not_found a b t u h1 hb hf) ?_;exact T6 (l:=[(a,t)]) (ys:=yW a b) (k:=s.toks) I ((if_neg (ne_true_of_eq_false h1)).trans (if_pos hf)).symm hl h
  ·refine call_meets JZ (typeIs_str _ _ _) Wx (Vw _ _) (meets_str_split_cannot_occur a b t u h1) ?_;exact T6 (l:=[(a,t)]) (ys:=yW a b) (k:=s.toks) I (if_pos h1).symm hl h))
theorem anf:MtR X "str.join" (λx xs H Q=>∃a p,∃ys:List Str,x= .str a/\xs=[.ref p]/\(cY X.K H p (ys.map V.str)\/Ol X.K H p (ys.map V.str))/\
  (ys.map (·.length)).sum+ys.length*a.length<=16777216/\Q (.str (aky a ys)) H):=(by apply aj:aa (by
 intro pins s σ H x xs v us Q I rx rs h;obtain ⟨a,p,ys,rfl,rfl,hp,hz,h⟩:=h;obtain ⟨t,rfl⟩:=rx;cases rs with
 |cons r1 rs=>
  cases rs;cases r1;rcases hp with hp | hp
  ·obtain ⟨its,r,⟨o,n,ho,hc,_,hd⟩,_⟩:=I.list hp;exact PyProof.Rows.join_list (items:=its.toArray) ⟨o,ho,hc,n,hd⟩ (by rw [List.toList_toArray];exact GF r) hz λt' k=>⟨.str _,H,I.tok k,⟨t',rfl⟩,h⟩
  ·obtain ⟨its,r,ht,_⟩:=I.tuple hp;exact PyProof.Rows.join_tuple (items:=its.toArray) ht (by rw [List.toList_toArray];exact GF r) hz λt' k=>⟨.str _,H,I.tok k,⟨t',rfl⟩,h⟩))
theorem acX:Cq X (.type "int") (λxs H Q=>∃a n,xs=[.str a]/\PySem.intText? a=some n/\a.length<=640/\Q (.int n) H):=by
 intro pins s σ H xs us Q I rs h;obtain ⟨a,n,rfl,hn,hl,h⟩:=h;cases rs with
 |cons r1 rs=>
  cases rs;obtain ⟨t,rfl⟩:=r1;exact PySem.W.KIN.call_text hn hl ⟨.int n,H,I.tok _,⟨_,rfl⟩,h⟩
end
section
variable {X:Cx} {o e:Expr} {to te:TE}
def tM1(r:V->List V->Hp->VK->Prop)(to te:TE):TE:=λσ H Q=>to σ H λx H1=>(∃a,x= .str a)/\te σ H1 λy H2=>r x [y] H2 Q
theorem an8{id:String}{name:Str}{apos pos:Pos}{r:V->List V->Hp->VK->Prop}(slot:Slot "str" name id)(ty:typeOf (.builtin id)=pure (.type "method_descriptor"))(rule:MtR X id r)(ho:PE X o to)(he:PE X e te)(hs:starEach [e] X.env=[(false,eval e X.env)]:=by rfl)(hbase:attributeBase o name X.env (eval o X.env)=eval o X.env:=by rfl)(hline:(apos.endLine==pos.line)=true:=by rfl):
  PE X (.Call (.Attribute o name apos) [e] [] pos) (tM1 r to te):=(by apply aj:aa (by
 intro pins s σ H Q I h;refine PySem.Call_method1 hbase hs hline (jL (ho pins s σ H _ I h) λv s1 ⟨x,H1,I1,r1,q1⟩=>?_);obtain ⟨⟨a,rfl⟩,q1⟩:=q1;obtain ⟨t,rfl⟩:=_root_.id r1;refine ⟨"str",_,F.plainAttrs_str,slot,ty,typeIs_str _ _ _,(λ_ e=>nomatch e),pR rfl (rG (jl ?_))⟩;exact jL (he pins s1 σ H1 _ I1 q1) λu s2 ⟨y,H2,I2,r2,q2⟩=>m5 (rule pins s2 σ H2 _ [y] _ [u] Q I2 r1 (.cons r2 .nil) q2)))
theorem ald{apos pos:Pos}(ho:PE X o to)(he:PE X e te)(hs:starEach [e] X.env=[(false,eval e X.env)]:=by rfl)(hbase:attributeBase o "split" X.env (eval o X.env)=eval o X.env:=by rfl)(hline:(apos.endLine==pos.line)=true:=by rfl):
  PE X (.Call (.Attribute o "split" apos) [e] [] pos) (tM1 (λx xs H Q=>∃a b,x= .str a/\xs=[.str b]/\(b.length==0)=false/\a.length+2<=sizeLine/\Xm (yW a b) H Q) to te):=
 an8 JZ F.type_str_split alv ho he hs hbase hline
theorem am4{apos pos:Pos}(ho:PE X o to)(he:PE X e te)(hs:starEach [e] X.env=[(false,eval e X.env)]:=by rfl)(hbase:attributeBase o "join" X.env (eval o X.env)=eval o X.env:=by rfl)(hline:(apos.endLine==pos.line)=true:=by rfl):
  PE X (.Call (.Attribute o "join" apos) [e] [] pos) (tM1 (λx xs H Q=>∃a p,∃ys:List Str,x= .str a/\xs=[.ref p]/\(cY X.K H p (ys.map V.str)\/Ol X.K H p (ys.map V.str))/\
   (ys.map (·.length)).sum+ys.length*a.length<=16777216/\Q (.str (aky a ys)) H) to te):=
 an8 F.slot_str_join F.type_str_join anf ho he hs hbase hline
end
end L2
namespace L2
open PySem PySem.Spec PyProof.Rows
section
variable {X:Cx}
theorem XM:Pn X (compareOp .In) (λx y H Q=>∃(c:Nat) (z:Str),x= .str ⟨#[c]⟩/\y= .str z/\Q (.bl (decide (c∈z.cps.toList))) H):=by
 intro pins s σ H x y v u Q I rx ry h;obtain ⟨c,z,rfl,rfl,q⟩:=h;obtain ⟨t,rfl⟩:=rx;obtain ⟨t',rfl⟩:=ry;exact PyProof.Rows.in_str (ig I q (ag8 z c).symm)
theorem aai:Pn X (compareOp .NotIn) (λx y H Q=>∃(c:Nat) (z:Str),x= .str ⟨#[c]⟩/\y= .str z/\Q (.bl (!decide (c∈z.cps.toList))) H):=by
 intro pins s σ H x y v u Q I rx ry h;obtain ⟨c,z,rfl,rfl,q⟩:=h;obtain ⟨t,rfl⟩:=rx;obtain ⟨t',rfl⟩:=ry;exact PyProof.Rows.notIn_str (ig I q (congrArg Bool.not (ag8 z c).symm))
end
end L2
namespace L2
open PySem PySem.Spec PyProof.Rows
theorem aaR:∀{vs:List Value} {ns:List Int},IntsAre vs ns->Vals (ns.map V.int) vs
 |_,_,.nil=>.nil
 |_,_,.cons n t h=>.cons ⟨t,rfl⟩ (aaR h)
def Only(H:Hp):Prop:=∀b,H b=none\/∃o xs,H b=some (.xZ o (.lst xs))
theorem aq5{P:Program}{w:World}{K:az}{mg mb:Str->Option Value}{CX:CXT}{k:Nat}{fa a:Addr}{fd:FuncData}{x:Str}{sp:Sp}{s₁:Shared}{vs:List Value}{ns:List Int}(KX:K.In s₁.heap)(hns:s₁.heap.Ns mainGlobals mg)(hb:s₁.heap.Ns builtinsNs mb)(hbb:∀x:Str,x≠"__name__"->mb x=bootBuiltins x)(hlim:s₁.heap.NoLimit)(hg:s₁.gens=#[])(ha:s₁.heap.get? a=some {cls:=.type "list",data:=.seq vs.toArray})(hi:IntsAre vs ns)(hl:ns.length<=sizeLine)(hr:wg k callerA)(F:∀base:Heap,K.In base->base.Ns mainGlobals mg->fU P w K mg base CX k fa fd [x] sp)(hbind:∀(s:Shared) (u:Value),BindsTo s fd ⟨[u],[]⟩ [(x,u)])(hsp:∀H:Hp,Only H->cY K H a (ns.map V.int)->sp [.ref a] H (λv _=>v= .bl true) λ_ _ _=>False)(hCX:∀H e s',CX [] H s₁ (λ_ _ _=>False) e s'->False):
  codeAny (model P w) callerA (.call (.ref fa) ⟨[.ref a],[]⟩) (λr s'=>r= .ok (.ret (.bool true))/\OldK s₁.heap s'.heap/\s'.os=s₁.os/\AllBare s'.gens) s₁:=(by apply aj:aa (by
 have rv:=aaR hi;have lenV:=hi.length;have core:∀H:Hp,Only H->cY K H a (ns.map V.int)->JQ P w H s₁.heap->(∀b,H b≠none->b=a)->(H a≠none->K.lookup a=none)->
   codeAny (model P w) callerA (.call (.ref fa) ⟨[.ref a],[]⟩) (λr s'=>r= .ok (.ret (.bool true))/\OldK s₁.heap s'.heap/\s'.os=s₁.os/\AllBare s'.gens) s₁:=by
  intro H hO hS hok hA hK;have R7:∀{b:Addr} {o:Obj},s₁.heap.get? b=some o->H b=none->(RL s₁.heap H).get? b=some o:=λe n=>aeP e n;have noA:∀{b:Addr} {o:Obj} {es:Array DictEntry} {ep:Nat},s₁.heap.get? b=some o->o.data= .dict es ep->H b=none:=λ{b o es ep} e d=>by
   cases q:H b with
   |none=>rfl
   |some u=>
    have e':b=a:=hA b (by rw [q];simp);subst e';rw [ha] at e;cases e;have d':adt vs.toArray _=Data.dict es ep:=d;cases d'
  have nsK:∀{b:Addr} {m:Str->Option Value},s₁.heap.Ns b m->(RL s₁.heap H).Ns b m:=λ{b m} ⟨o,es,ep,e,d,r⟩=>⟨o,es,ep,R7 e (noA e d),d,r⟩;have hKb:K.In (RL s₁.heap H):=λb o e=>R7 (KX b o e) (by
   cases q:H b with
   |none=>rfl
   |some u=>
    have e':b=a:=hA b (by rw [q];simp);subst e';rw [hK (by rw [q];simp)] at e;cases e)
  have hM:Mod K mg (RL s₁.heap H):=⟨hKb,nsK hns,⟨mb,nsK hb,hbb⟩,let ⟨mc,h1,h2⟩:=hlim;⟨mc,nsK h1,h2⟩⟩;have e0:afj P w K mg (RL s₁.heap H) callerA [] s₁ H:=⟨rfl,hM,λb o e=>ahP e,Dy (aa9 _ _),trivial,λb hb=>absurd (show b∈([]:List Addr) from hb) (by simp),hok,.of_eq hg⟩;refine codeAny_mono ((F _ hKb (nsK hns)).run callerA [] s₁ H ⟨[.ref a],[]⟩ [.ref a] [.ref a] _ _ hr e0 (hbind s₁ (.ref a)) (.cons rfl .nil) (hsp H hO hS)) λr s' h=>?_;cases r with
  |error e=>exact (hCX H e s' h).elim
  |ok fl=>
   cases fl with
   |next=>exact gZ h
   |brk=>exact gZ h
   |cont=>exact gZ h
   |ret u=>
    obtain ⟨v,H',os,bare,un,hok',r',q⟩:=h;have q':v= .bl true:=q;subst q';obtain rfl:u=vZ true:=r';refine ⟨rfl,OldK.of_keep λb o e=>?_,os,bare⟩;cases q:H b with
    |none=>exact un.keep b o e q (by intro z;exact absurd (show b∈([]:List Addr) from z) (by simp)) (by simp)
    |some u=>
     rcases hO b with z | ⟨ob,xs,z⟩
     ·rw [q] at z;cases z
     ·have z2:=un.V0 b ob _ z;obtain ⟨e1,_⟩:=hok b _ z;obtain ⟨e2,_⟩:=hok' b _ z2;rw [e] at e1;cases e1;exact e2
 cases hk:K.lookup a with
 |some o=>
  have e:=KX a o hk;rw [ha] at e;cases e;refine core (λ_=>none) (λ_=>.inl rfl) (.inr ⟨_,vs.toArray,_,hk,rfl,rfl,rfl,by rw [bN,lenV];exact hl,by simpa using rv⟩) (λb u z=>by have z':(none:Option HO)=some u:=z;cases z') (λb z=>absurd rfl z) λz=>absurd rfl z
 |none=>
  refine core (λb=>if b=a then some (.xZ {cls:=.type "list",data:=.seq vs.toArray} (.lst (ns.map V.int))) else none) (λb=>?_) (.inl (.inr ⟨{cls:=.type "list",data:=.seq vs.toArray},if_pos rfl⟩)) (λb u z=>?_) (λb z=>?_) λ_=>hk
  ·by_cases hb:b=a
   ·exact .inr ⟨_,_,if_pos hb⟩
   ·exact .inl (if_neg hb)
  ·by_cases hb:b=a
   ·have z':=(if_pos hb).symm.trans z;cases z';subst hb;exact ⟨ha,by rw [ao];exact hl,vs,_,rv,ha⟩
   ·have z':=(if_neg hb).symm.trans z;cases z'
  ·by_cases hb:b=a
   ·exact hb
   ·exact absurd (if_neg hb) z))
end L2
namespace L2
open PySem PySem.Spec PyProof.Rows
noncomputable def inClass (s:Stmt) (j:Nat):Stmt:=match s with
 |.ClassDef _ _ _ body _ _ _ _ _ _ _=>body.getD j (.Pass ⟨0,0,0,0⟩)
 |_=>.Pass ⟨0,0,0,0⟩
noncomputable def NB (s:Stmt):Arguments:=match s with
 |.FunctionDef _ a _ _ _ _ _ _ _ _=>a
 |_=>{posonlyargs:=[],args:=[],vararg:=none,kwonlyargs:=[],kw_defaults:=[],kwarg:=none,defaults:=[]}
def Ib(s:Stmt):List Stmt:=match s with
 |.FunctionDef _ _ b _ _ _ _ _ _ _=>b
 |_=>[]
noncomputable def aX (s:Stmt):Scope:=match s with
 |.FunctionDef _ _ _ _ _ _ sc _ _ _=>sc
 |_=>{kind:=.function,names:=[],isGenerator:=false,isCoroutine:=false}
abbrev mU:CXT:=λ_ _ _ _ _ _=>False
abbrev E0:XK:=λ_ _ _=>False
theorem dz{X:Cx}:Passes mU X E0:=λ_ _ _ _ _ _ _ h=>h.elim
structure nQ(K:az)(x qual:Str)(st:Stmt)(f:Addr)(fd:FuncData):Prop where
 ex:∃(oc:Value) (od:Option Addr) (kV doc pm:Value) (an:Option Addr) (cdv ct:Value) (osl:Array (Option Value)),
  fd=tO x qual (NB st) (Ib st) (aX st) .none kV doc pm an cdv ct/\K.lookup f=some ⟨oc,od,.func fd,osl⟩/\QQ K cdv qual=true
 kp:lW K (.ref f)=true
section
variable {P:Program} {w:World} {K:az} {mg:Str->Option Value} {base:Heap}
theorem nQ.ok{x qual:Str}{st:Stmt}{f:Addr}{fd:FuncData}{N ps:List Str}{k:Nat}{sp:Sp}(F:nQ K x qual st f fd)(S:bQ N ps (aX st))(len:∀vs H Q E,sp vs H Q E->vs.length=ps.length)(hbody:∀(cdv:Value) (A:Around) (outer:List Env) (s:Shared) (H:Hp) (vs:List V) (Q:VK) (E:XK),wg k (A.deeper (envOfC qual (aX st) s.heap.objs.size f cdv))->sp vs H Q E->
   ∃t,PSs (Y0 mU P w K mg base N qual (aX st) f cdv A outer s H E).nox (Ib st) t/\t {nx:=λ_ H'=>Q .non H',rt:=Q} (start N vs) H):fU P w K mg base mU (k+1) f fd ps sp:=by
 obtain ⟨oc,od,kV,doc,pm,an,cdv,ct,osl,rfl,lk,hcd⟩:=F.ex;refine arF lk hcd S len λA outer s H vs Q E hr hsp=>?_;obtain ⟨t,h,q⟩:=hbody cdv A outer s H vs Q E hr hsp;exact ⟨t,h.nox,q⟩
theorem nQ.binds{x qual:Str}{st:Stmt}{f:Addr}{fd:FuncData}{ps:List Str}(F:nQ K x qual st f fd)(h:∀(kV doc pm:Value) (an:Option Addr) (cdv ct:Value) (us:List Value),us.length=ps.length->bindArgs (tO x qual (NB st) (Ib st) (aX st) .none kV doc pm an cdv ct) ⟨us,[]⟩=pure (ps.zip us)):Binds K fd ps []:=by
 obtain ⟨oc,od,kV,doc,pm,an,cdv,ct,osl,rfl,lk,hcd⟩:=F.ex;exact .all (h kV doc pm an cdv ct)
theorem ama{x qual:Str}{st:Stmt}{f:Addr}{oc:Value}{od an:Option Addr}{osl:Array (Option Value)}{kV doc pm cdv ct:Value}(l:K.lookup f=some ⟨oc,od,.func (tO x qual (NB st) (Ib st) (aX st) .none kV doc pm an cdv ct),osl⟩)(c:QQ K cdv qual=true)(k:lW K (.ref f)=true):nQ K x qual st f (tO x qual (NB st) (Ib st) (aX st) .none kV doc pm an cdv ct):=⟨⟨oc,od,kV,doc,pm,an,cdv,ct,osl,rfl,l,c⟩,k⟩
end
section
variable {X:Cx}
theorem pv(i:Nat){x:Str}{pos:Pos}(hN:X.N[i]? =some x:=by rfl)(hv:Vis X.env.scope x:=by first | exact dZ rfl | exact gF (dZ rfl) | exact gF (gF rfl))(hd:(x==("__debug__":Str))=false:=by decide)(hcd:(x==("__classdict__":Str))=false:=by decide):PE X (.Name x pos) (aiK i):=alc hN hv hd hcd
theorem wM:Cq X (.builtin "len") (λxs H Q=>∃a kvs,xs=[V.ref a]/\H a=some (.dK kvs)/\Q (.int kvs.length) H):=by
 intro pins s σ H xs us Q I r h;obtain ⟨a,kvs,rfl,ha,q⟩:=h;obtain ⟨u,rfl,ru⟩:=vals1 r;cases ru;exact arM I (.inl ha) λt s' I'=>⟨.int kvs.length,H,I',⟨t,rfl⟩,q⟩
end
def bh(H H':Hp):Prop:=∀b o,H b=some o->H' b=some o
theorem bh.refl(H:Hp):bh H H:=λ_ _ h=>h
theorem bh.trans{H H1 H2:Hp}(a:bh H H1)(b:bh H1 H2):bh H H2:=λc o h=>b c o (a c o h)
theorem bh.free{H H':Hp}(e:bh H H'){l:Addr}(h:H' l=Option.none):H l=Option.none:=by
 cases q:H l with
 |none=>rfl
 |some o=>
  rw [e l o q] at h;cases h
theorem bh.seq{K:az}{H H':Hp}{a:Addr}{xs:List V}(e:bh H H')(h:cY K H a xs):cY K H' a xs:=by
 rcases h with (h | ⟨o,h⟩) | h
 ·exact .inl (.inl (e _ _ h))
 ·exact .inl (.inr ⟨o,e _ _ h⟩)
 ·exact .inr h
section
variable {κ:Type} [DecidableEq κ]
theorem amF{kvs:List (κ×V)}{k:κ}{v:V}(h:m7 kvs k=some v):k∈kvs.map (·.1):=by
 have q:(kvs.any λkv=>decide (kv.1=k))=true:=by
  rw [Q4,h]
  all_goals rfl
 obtain ⟨p,hp,e⟩:=JX.mp q;exact cF.mpr ⟨p,hp,of_decide_eq_true e⟩
end
theorem at_of{xs:List V}{z:Int}{j:Nat}{v:V}(e:z=(j:Int))(h:xs[j]? =some v):atI xs z=some v:=by
 rw [e];exact fH h
theorem alp{α:Type}{l:List α}(hN:l.Nodup){i j:Nat}{x:α}(a:l[i]? =some x)(b:l[j]? =some x):i=j:=by
 obtain ⟨h1,e1⟩:=aQ.mp a;obtain ⟨h2,e2⟩:=aQ.mp b;exact (List.getElem_inj hN).mp (e1.trans e2.symm)
end L2
section
namespace L2
open PySem PySem.Spec PyProof.Rows
open PySem.W (WData Codec OpenSpec Well WellAll ReadsW ReadsAllW)
mutual
inductive Dw(K:az)(H:Hp):V->WData->Prop
 |non:Dw K H .non .none
 |bl (b:Bool):Dw K H (.bl b) (.bool b)
 |int (i:Int):Dw K H (.int i) (.int i)
 |str (x:Str):Dw K H (.str x) (.str x)
 |byt (b:Array UInt8):Dw K H (.byt b) (.bytes b.toList)
 |lst {a:Addr} {xs:List V} {ds:List WData}:cY K H a xs->Gk K H xs ds->Dw K H (.ref a) (.list ds)
 |tup {a:Addr} {xs:List V} {ds:List WData}:Ol K H a xs->Gk K H xs ds->Dw K H (.ref a) (.tuple ds)
inductive Gk(K:az)(H:Hp):List V->List WData->Prop
 |nil:Gk K H [] []
 |cons {v:V} {vs:List V} {d:WData} {ds:List WData}:Dw K H v d->Gk K H vs ds->Gk K H (v::vs) (d::ds)
end
theorem aic{K:az}{H:Hp}:∀ns:List Int,Gk K H (ns.map V.int) (ns.map WData.int)
 |[]=>.nil
 |n::r=>.cons (.int n) (aic r)
theorem ahY{K:az}{H:Hp}:∀(ns:List Int) (xs:List V),Gk K H xs (ns.map WData.int)->xs=ns.map V.int
 |[],xs,h=>by
  cases h;rfl
 |n::r,xs,h=>by
  cases h with
  |cons h1 h2=>
   cases h1;rw [ahY r _ h2]<;>rfl
section
variable {P:Program} {w:World} {K:az} {H:Hp} {h:Heap} {R:PySem.W.WRecords} {cl:Str->Option Addr}
theorem aoK{a:Addr}{xs:List V}(hok:JQ P w H h)(KX:K.In h)(q:cY K H a xs):∃(its:List Value) (o:Obj) (n:Nat),Vals xs its/\h.get? a=some o/\o.cls= .type "list"/\o.data= .seq its.toArray n:=by
 rcases q with q | ⟨o,its,n,e,hc,_,hd,_,hv⟩
 ·obtain ⟨_,its,n,hv,e⟩:=(show lE P w H h a (.lst xs) from q.ok hok);exact ⟨its,_,n,hv,e,rfl,rfl⟩
 ·exact ⟨its.toList,o,n,hv,KX _ _ e,hc,by simp [hd]⟩
theorem aoJ{a:Addr}{xs:List V}(hok:JQ P w H h)(KX:K.In h)(q:Ol K H a xs):∃(its:List Value) (o:Obj) (n:Nat),Vals xs its/\h.get? a=some o/\o.cls= .type "tuple"/\o.data= .seq its.toArray n:=by
 rcases q with q | ⟨o,its,n,e,hc,hd,_,hv⟩
 ·obtain ⟨_,its,hv,o,e,hc,n,hd⟩:=(show lE P w H h a (.tup xs) from q.ok hok);exact ⟨its,o,n,hv,e,hc,hd⟩
 ·exact ⟨its.toList,o,n,hv,KX _ _ e,hc,by simp [hd]⟩
mutual
theorem Dw.reads(hok:JQ P w H h)(KX:K.In h):∀(d:WData) (v:V) (u:Value),Dw K H v d->RelV v u->∃as,ReadsW R cl h u d as
 |.none,_,_,x,r=>by
  cases x;cases r;exact ⟨_,ReadsW.none⟩
 |.bool b,_,_,x,r=>by
  cases x;cases r;exact ⟨_,ReadsW.bool b⟩
 |.int i,_,_,x,r=>by
  cases x;obtain ⟨t,rfl⟩:=r;exact ⟨_,ReadsW.int i t⟩
 |.str s,_,_,x,r=>by
  cases x;obtain ⟨t,rfl⟩:=r;exact ⟨_,ReadsW.str s t⟩
 |.bytes b,_,_,x,r=>by
  cases x;obtain ⟨t,rfl⟩:=r;exact ⟨_,ReadsW.bytes _ t⟩
 |.list ds,_,_,x,r=>by
  cases x with
  |lst hs ha=>
   cases r;obtain ⟨its,o,n,rv,ho,hc,hd⟩:=aoK hok KX hs;obtain ⟨as,hr⟩:=Dw.readsAll hok KX ds _ its ha rv;exact ⟨_,ReadsW.list ho hc hd hr⟩
 |.tuple ds,_,_,x,r=>by
  cases x with
  |tup hs ha=>
   cases r;obtain ⟨its,o,n,rv,ho,hc,hd⟩:=aoJ hok KX hs;obtain ⟨as,hr⟩:=Dw.readsAll hok KX ds _ its ha rv;exact ⟨_,ReadsW.tuple ho hc hd hr⟩
 |.float _,_,_,x,_=>by cases x
 |.dict _,_,_,x,_=>by cases x
 |.bytearray _,_,_,x,_=>by cases x
 |.set _,_,_,x,_=>by cases x
 |.frozenset _,_,_,x,_=>by cases x
 |.obj _ _,_,_,x,_=>by cases x
theorem Dw.readsAll(hok:JQ P w H h)(KX:K.In h):∀(ds:List WData) (vs:List V) (us:List Value),Gk K H vs ds->Vals vs us->∃as,ReadsAllW R cl h us ds as
 |[],_,_,x,r=>by
  cases x;cases r;exact ⟨_,ReadsAllW.nil⟩
 |d::ds,_,_,x,r=>by
  cases x with
  |cons h1 h2=>
   cases r with
   |cons r1 r2=>
    obtain ⟨as,q1⟩:=Dw.reads hok KX d _ _ h1 r1;obtain ⟨bs,q2⟩:=Dw.readsAll hok KX ds _ _ h2 r2;exact ⟨_,ReadsAllW.cons q1 q2⟩
end
end
mutual
noncomputable def plW:WData->Bool
 |.none=>true
 |.bool _=>true
 |.int _=>true
 |.str _=>true
 |.bytes _=>true
 |.list xs=>VL xs
 |.tuple xs=>VL xs
 |_=>false
noncomputable def VL:List WData->Bool
 |[]=>true
 |x::r=>plW x&&VL r
end
theorem ad9{α:Type}{f:α->WData}(h:∀a,plW (f a)=true):∀l:List α,VL (l.map f)=true
 |[]=>rfl
 |x::r=>by
  show (plW (f x)&&VL (r.map f))=true;rw [h x,ad9 h r]<;>rfl
theorem Ks:∀(c:Codec) (a:c.denote),plW (c.enc a)=true
 |.unit,_=>rfl
 |.bool,_=>rfl
 |.int _ _,_=>rfl
 |.nat _ _,_=>rfl
 |.u8,_=>rfl
 |.bytes _ _,_=>rfl
 |.text _ _ _ _,_=>rfl
 |.list _ _ c,a=>ad9 (λx=>Ks c x) a
 |.pair c d,a=>by
  show (plW (c.enc a.1)&&(plW (d.enc a.2)&&true))=true;rw [Ks c a.1,Ks d a.2]<;>rfl
 |.triple c d e,a=>by
  show (plW (c.enc a.1)&&(plW (d.enc a.2.1)&&(plW (e.enc a.2.2)&&true)))=true;rw [Ks c a.1,Ks d a.2.1,Ks e a.2.2]<;>rfl
 |.option c,none=>rfl
 |.option c,some x=>Ks c x
theorem aaX:∀(cs:List Codec) (a:Cw cs),VL (xQ cs a)=true
 |[],_=>rfl
 |c::cs,a=>by
  show (plW (c.enc a.1)&&VL (xQ cs a.2))=true;rw [Ks c a.1,aaX cs a.2]<;>rfl
theorem Py:∀{xs:List WData} {d:WData},d∈xs->d.weight<=Oq xs
 |[],d,h=>absurd h (by simp)
 |x::r,d,h=>by
  show d.weight<=x.weight+1+Oq r;rcases bc.mp h with e | m
  ·rw [e];omega
  ·have z:=Py m;omega
noncomputable def toV:Value->V
 |.none=>.non
 |.bool b=>.bl b
 |.int i _=>.int i
 |.str x _=>.str x
 |.bytes b _=>.byt b
 |.ref a=>.ref a
 |_=>.non
def OkU(A:List Addr):Value->Prop
 |.none=>True
 |.bool _=>True
 |.int _ _=>True
 |.str _ _=>True
 |.bytes _ _=>True
 |.ref a=>a∈A
 |_=>False
theorem OkU.mono{A B:List Addr}(h:∀a∈A,a∈B):∀{u:Value},OkU A u->OkU B u:=λ{u} x=>by
 cases u with
 |ref a=>exact h a x
 |none=>trivial
 |bool b=>trivial
 |int i t=>trivial
 |str s t=>trivial
 |bytes b t=>trivial
 |_=>exact gZ x
theorem ak8{A:List Addr}{u:Value}(x:OkU A u):RelV (toV u) u:=by
 cases u with
 |ref a=>rfl
 |none=>rfl
 |bool b=>rfl
 |int i t=>exact ⟨t,rfl⟩
 |str s t=>exact ⟨t,rfl⟩
 |bytes b t=>exact ⟨t,rfl⟩
 |_=>exact gZ x
theorem Ff{A:List Addr}:∀{vs:List Value},(∀u∈vs,OkU A u)->Vals (vs.map toV) vs
 |[],_=>.nil
 |u::r,h=>.cons (ak8 (h u (bz ..))) (Ff λx hx=>h x (aV _ hx))
def JG(h:Heap)(A:List Addr)(a:Addr):Prop:=∃vs:List Value,vs.length<=sizeLine/\(∀u∈vs,OkU A u)/\
 (h.get? a=some {cls:=.type "list",data:=.seq vs.toArray}\/h.get? a=some {cls:=.type "tuple",data:=.seq vs.toArray})
theorem JG.mono{h:Heap}{A B:List Addr}{a:Addr}(k:∀a∈A,a∈B)(x:JG h A a):JG h B a:=by
 obtain ⟨vs,h1,h2,h3⟩:=x;exact ⟨vs,h1,λu hu=>(h2 u hu).mono k,h3⟩
theorem J3{P:Params}{h:Heap}:∀{vs:List Value} {ds:List WData},WellAll P h vs ds->vs.length=ds.length:=by
 intro vs ds k
 induction ds generalizing vs with
 |nil=>cases k;rfl
 |cons d ds ih=>cases k with | cons _ b=>show _+1=_+1;rw [ih b]
theorem aaO{P:Params}{h:Heap}{v:Value}{ds:List WData}(x:Well P h v (.list ds)):∃(a:Addr) (vs:List Value),v= .ref a/\h.get? a=some {cls:=.type "list",data:=.seq vs.toArray}/\WellAll P h vs ds:=by
 cases x with
 |list ho hall=>exact ⟨_,_,rfl,ho,hall⟩
theorem WL{P:Params}{h:Heap}{v:Value}{ds:List WData}(x:Well P h v (.tuple ds)):∃(a:Addr) (vs:List Value),v= .ref a/\h.get? a=some {cls:=.type "tuple",data:=.seq vs.toArray}/\WellAll P h vs ds:=by
 cases x with
 |tuple ho hall=>exact ⟨_,_,rfl,ho,hall⟩
theorem aaP{P:Params}{h:Heap}{us:List Value}{d:WData}{ds:List WData}(x:WellAll P h us (d::ds)):∃(v:Value) (vs:List Value),us=v::vs/\Well P h v d/\WellAll P h vs ds:=by
 cases x with
 |cons a b=>exact ⟨_,_,rfl,a,b⟩
theorem ahT{n:Nat}(h:n<=1048576):n<=sizeLine:=aY h (by decide)
section
variable {P:Params} {h:Heap}
mutual
theorem amn:∀(d:WData) (v:Value),Well P h v d->plW d=true->d.weight<=1048576->∃A:List Addr,OkU A v/\∀a∈A,JG h A a
 |.none,_,x,_,_=>by
  cases x;exact ⟨[],trivial,λa m=>absurd m (by simp)⟩
 |.bool b,_,x,_,_=>by
  cases x;exact ⟨[],trivial,λa m=>absurd m (by simp)⟩
 |.int i,_,x,_,_=>by
  cases x;exact ⟨[],trivial,λa m=>absurd m (by simp)⟩
 |.str s,_,x,_,_=>by
  cases x;exact ⟨[],trivial,λa m=>absurd m (by simp)⟩
 |.bytes b,_,x,_,_=>by
  cases x;exact ⟨[],trivial,λa m=>absurd m (by simp)⟩
 |.list ds,_,x,p,z=>by
  obtain ⟨a,vs,rfl,ho,hall⟩:=aaO x;have z2:Oq ds<=1048576:=z;obtain ⟨A,h1,h2⟩:=R9 ds _ hall p λd hd=>aY (Py hd) z2;have k:∀b∈A,b∈a::A:=λb hb=>aV _ hb;refine ⟨a::A,bz ..,λb hb=>?_⟩;rcases bc.mp hb with e | m
  ·rw [e];exact ⟨vs,ahT (by rw [J3 hall];exact aY (abx ds) z2),λu hu=>(h1 u hu).mono k,.inl ho⟩
  ·exact (h2 b m).mono k
 |.tuple ds,_,x,p,z=>by
  obtain ⟨a,vs,rfl,ho,hall⟩:=WL x;have z2:Oq ds<=1048576:=z;obtain ⟨A,h1,h2⟩:=R9 ds _ hall p λd hd=>aY (Py hd) z2;have k:∀b∈A,b∈a::A:=λb hb=>aV _ hb;refine ⟨a::A,bz ..,λb hb=>?_⟩;rcases bc.mp hb with e | m
  ·rw [e];exact ⟨vs,ahT (by rw [J3 hall];exact aY (abx ds) z2),λu hu=>(h1 u hu).mono k,.inr ho⟩
  ·exact (h2 b m).mono k
 |.float _,_,_,p,_=>gq (show false=true from p)
 |.dict _,_,_,p,_=>gq (show false=true from p)
 |.bytearray _,_,_,p,_=>gq (show false=true from p)
 |.set _,_,_,p,_=>gq (show false=true from p)
 |.frozenset _,_,_,p,_=>gq (show false=true from p)
 |.obj _ _,_,_,p,_=>gq (show false=true from p)
theorem R9:∀(ds:List WData) (vs:List Value),WellAll P h vs ds->VL ds=true->(∀d∈ds,d.weight<=1048576)->∃A:List Addr,(∀u∈vs,OkU A u)/\∀a∈A,JG h A a
 |[],_,x,_,_=>by
  cases x;exact ⟨[],λu m=>absurd m (by simp),λa m=>absurd m (by simp)⟩
 |d::ds,_,x,p,z=>by
  obtain ⟨v,vs,rfl,x1,x2⟩:=aaP x;have q:plW d=true/\VL ds=true:=QX.mp p;obtain ⟨A,a1,a2⟩:=amn d v x1 q.1 (z d (bz ..));obtain ⟨B,b1,b2⟩:=R9 ds vs x2 q.2 λe he=>z e (aV _ he);have kA:∀b∈A,b∈A++B:=λb hb=>d8.mpr (.inl hb);have kB:∀b∈B,b∈A++B:=λb hb=>d8.mpr (.inr hb);refine ⟨A++B,λu hu=>?_,λb hb=>?_⟩
  ·rcases bc.mp hu with e | m
   ·rw [e];exact a1.mono kA
   ·exact (b1 u m).mono kB
  ·rcases d8.mp hb with m | m
   ·exact (a2 b m).mono kA
   ·exact (b2 b m).mono kB
end
end
noncomputable def anu (o:Obj):Option HO:=match o.data with
 |.seq vs _=>if (o.cls==iM "list")=true then some (.xZ o (.lst (vs.toList.map toV))) else some (.xZ o (.tup (vs.toList.map toV)))
 |_=>none
noncomputable def Iw (K:az) (h:Heap) (A:List Addr):Hp:=λb=>if b∈A then (if (K.lookup b).isNone=true then (h.get? b).bind anu else none) else none
def abr(H:Hp):Prop:=∀b,H b=none\/∃o u,H b=some (.xZ o u)
theorem aeO(vs:List Value):anu {cls:=.type "list",data:=.seq vs.toArray}=some (.xZ {cls:=.type "list",data:=.seq vs.toArray} (.lst (vs.map toV))):=(by apply aj:aa (by
 show (if (iM "list"==iM "list")=true then some (HO.xZ {cls:=.type "list",data:=.seq vs.toArray} (.lst (vs.toArray.toList.map toV))) else some (HO.xZ {cls:=.type "list",data:=.seq vs.toArray} (.tup (vs.toArray.toList.map toV))))=_;rw [if_pos (beq_self_eq_true _)]))
theorem aeN(vs:List Value):anu {cls:=.type "tuple",data:=.seq vs.toArray}=some (.xZ {cls:=.type "tuple",data:=.seq vs.toArray} (.tup (vs.map toV))):=by
 show (if (iM "tuple"==iM "list")=true then some (HO.xZ {cls:=.type "tuple",data:=.seq vs.toArray} (.lst (vs.toArray.toList.map toV))) else some (HO.xZ {cls:=.type "tuple",data:=.seq vs.toArray} (.tup (vs.toArray.toList.map toV))))=_;rw [if_neg (by decide)]
section
variable {P:Program} {w:World} {K:az} {h:Heap} {A:List Addr}
theorem Wk{b:Addr}{o:Obj}(hb:b∈A)(hk:K.lookup b=none)(e:h.get? b=some o):Iw K h A b=anu o:=by
 unfold Iw;rw [if_pos hb,hk,if_pos (show (none:Option Obj).isNone=true from rfl),e]<;>rfl
theorem am8{b:Addr}{u:HO}(q:Iw K h A b=some u):b∈A/\K.lookup b=none:=by
 unfold Iw at q;by_cases hb:b∈A
 ·rw [if_pos hb] at q;cases hk:K.lookup b with
  |none=>exact ⟨hb,rfl⟩
  |some o=>
   rw [hk,if_neg (by simp)] at q;cases q
 ·rw [if_neg hb] at q;cases q
theorem Wj(ar:∀a∈A,JG h A a){b:Addr}{u:HO}(q:Iw K h A b=some u):K.lookup b=none/\∃vs:List Value,vs.length<=sizeLine/\(∀u∈vs,OkU A u)/\
  ((h.get? b=some {cls:=.type "list",data:=.seq vs.toArray}/\u= .xZ {cls:=.type "list",data:=.seq vs.toArray} (.lst (vs.map toV)))\/
   (h.get? b=some {cls:=.type "tuple",data:=.seq vs.toArray}/\u= .xZ {cls:=.type "tuple",data:=.seq vs.toArray} (.tup (vs.map toV)))):=by
 obtain ⟨hb,hk⟩:=am8 q;obtain ⟨vs,h1,h2,h3⟩:=ar b hb;refine ⟨hk,vs,h1,h2,?_⟩;rcases h3 with e | e
 ·rw [Wk hb hk e,aeO] at q;exact .inl ⟨e,(aB q).symm⟩
 ·rw [Wk hb hk e,aeN] at q;exact .inr ⟨e,(aB q).symm⟩
theorem aj0(ar:∀a∈A,JG h A a):abr (Iw K h A):=λb=>by
 cases q:Iw K h A b with
 |none=>exact .inl rfl
 |some u=>
  obtain ⟨_,vs,_,_,⟨_,e⟩ | ⟨_,e⟩⟩:=Wj ar q
  ·exact .inr ⟨_,_,by rw [e]⟩
  ·exact .inr ⟨_,_,by rw [e]⟩
theorem anQ(ar:∀a∈A,JG h A a):JQ P w (Iw K h A) h:=λb u q=>by
 obtain ⟨_,vs,h1,h2,⟨e,rfl⟩ | ⟨e,rfl⟩⟩:=Wj ar q
 ·exact ⟨e,by rw [ao];exact h1,vs,_,Ff h2,e⟩
 ·exact ⟨e,by rw [ao];exact h1,vs,Ff h2,_,e,rfl,_,rfl⟩
theorem V9{c c':Value}{vs us:List Value}(e:(some {cls:=c,data:=.seq vs.toArray}:Option Obj)=some {cls:=c',data:=.seq us.toArray}):c=c'/\vs=us:=by
 have e1:=aB e;have e2:c=c':=congrArg Obj.cls e1;have e3:adt vs.toArray=adt us.toArray:=congrArg Obj.data e1;injection e3 with e4
 refine ⟨e2,?_⟩;have e5:=congrArg aiv e4;simpa using e5
theorem auI(KX:K.In h)(ar:∀a∈A,JG h A a){a:Addr}{vs:List Value}(ha:a∈A)(e:h.get? a=some {cls:=.type "list",data:=.seq vs.toArray}):(∀u∈vs,OkU A u)/\cY K (Iw K h A) a (vs.map toV):=(by apply aj:aa (by
 obtain ⟨us,h1,h2,h3⟩:=ar a ha;have hu:us=vs:=by
  rcases h3 with q | q
  ·rw [e] at q;exact (V9 q).2.symm
  ·rw [e] at q;exact absurd (QK (V9 q).1) (by decide)
 subst hu;refine ⟨h2,?_⟩;cases hk:K.lookup a with
 |none=>exact .inl (.inr ⟨_,by rw [Wk ha hk e,aeO]⟩)
 |some o=>
  have e2:=KX a o hk;rw [e] at e2;obtain rfl:=aB e2;exact .inr ⟨_,us.toArray,_,hk,rfl,rfl,rfl,by rw [bN];exact h1,by simpa using Ff h2⟩))
theorem auH(KX:K.In h)(ar:∀a∈A,JG h A a){a:Addr}{vs:List Value}(ha:a∈A)(e:h.get? a=some {cls:=.type "tuple",data:=.seq vs.toArray}):(∀u∈vs,OkU A u)/\Ol K (Iw K h A) a (vs.map toV):=(by apply aj:aa (by
 obtain ⟨us,h1,h2,h3⟩:=ar a ha;have hu:us=vs:=by
  rcases h3 with q | q
  ·rw [e] at q;exact absurd (QK (V9 q).1) (by decide)
  ·rw [e] at q;exact (V9 q).2.symm
 subst hu;refine ⟨h2,?_⟩;cases hk:K.lookup a with
 |none=>exact .inl (.inr ⟨_,by rw [Wk ha hk e,aeN]⟩)
 |some o=>
  have e2:=KX a o hk;rw [e] at e2;obtain rfl:=aB e2;exact .inr ⟨_,us.toArray,_,hk,rfl,rfl,by rw [bN];exact h1,by simpa using Ff h2⟩))
mutual
theorem apG{Pm:Params}(KX:K.In h)(ar:∀a∈A,JG h A a):∀(d:WData) (v:Value),Well Pm h v d->plW d=true->OkU A v->Dw K (Iw K h A) (toV v) d
 |.none,_,x,_,_=>by
  cases x;exact .non
 |.bool b,_,x,_,_=>by
  cases x;exact .bl b
 |.int i,_,x,_,_=>by
  cases x;exact .int i
 |.str s,_,x,_,_=>by
  cases x;exact .str s
 |.bytes b,_,x,_,_=>by
  cases x;have z:=Dw.byt (K:=K) (H:=Iw K h A) b.toArray;exact z
 |.list ds,_,x,p,hu=>by
  obtain ⟨a,vs,rfl,ho,hall⟩:=aaO x;obtain ⟨h2,hs⟩:=auI KX ar hu ho;exact .lst hs (acQ KX ar ds _ hall p h2)
 |.tuple ds,_,x,p,hu=>by
  obtain ⟨a,vs,rfl,ho,hall⟩:=WL x;obtain ⟨h2,hs⟩:=auH KX ar hu ho;exact .tup hs (acQ KX ar ds _ hall p h2)
 |.float _,_,_,p,_=>gq (show false=true from p)
 |.dict _,_,_,p,_=>gq (show false=true from p)
 |.bytearray _,_,_,p,_=>gq (show false=true from p)
 |.set _,_,_,p,_=>gq (show false=true from p)
 |.frozenset _,_,_,p,_=>gq (show false=true from p)
 |.obj _ _,_,_,p,_=>gq (show false=true from p)
theorem acQ{Pm:Params}(KX:K.In h)(ar:∀a∈A,JG h A a):∀(ds:List WData) (vs:List Value),WellAll Pm h vs ds->VL ds=true->(∀u∈vs,OkU A u)->Gk K (Iw K h A) (vs.map toV) ds
 |[],_,x,_,_=>by
  cases x;exact .nil
 |d::ds,_,x,p,hu=>by
  obtain ⟨v,vs,rfl,x1,x2⟩:=aaP x;have q:plW d=true/\VL ds=true:=QX.mp p;exact .cons (apG KX ar d v x1 q.1 (hu _ (bz ..))) (acQ KX ar ds vs x2 q.2 λu m=>hu u (aV _ m))
end
end
theorem aiN{P:Program}{w:World}{K:az}{mg mb:Str->Option Value}{CX:CXT}{k:Nat}{fa:Addr}{fd:FuncData}{ps:List Str}{sp:Sp}{s₁:Shared}{vals:List Value}{ds:List WData}{R:PySem.W.WRecords}{cl:Str->Option Addr}{d0:WData}(KX:K.In s₁.heap)(hns:s₁.heap.Ns mainGlobals mg)(hb:s₁.heap.Ns builtinsNs mb)(hbb:∀x:Str,x≠"__name__"->mb x=bootBuiltins x)(hlim:s₁.heap.NoLimit)(hg:s₁.gens=#[])(hwl:WellAll w.params s₁.heap vals ds)(hpl:VL ds=true)(hwt:∀d∈ds,d.weight<=1048576)(hr:wg k callerA)(F:∀base:Heap,K.In base->base.Ns mainGlobals mg->fU P w K mg base CX k fa fd ps sp)(hbind:∀(s:Shared) (us:List Value),us.length=ps.length->BindsTo s fd ⟨us,[]⟩ (ps.zip us))(hlen:ds.length=ps.length)(hsp:∀(H:Hp) (xs:List V),abr H->Gk K H xs ds->sp xs H (λv H'=>Dw K H' v d0) λ_ _ _=>False)(hCX:∀H e s',CX [] H s₁ (λ_ _ _=>False) e s'->False):
  codeAny (model P w) callerA (.call (.ref fa) ⟨vals,[]⟩) (λr s'=>∃u as,r= .ok (.ret u)/\ReadsW R cl s'.heap u d0 as/\OldK s₁.heap s'.heap/\s'.os=s₁.os/\AllBare s'.gens) s₁:=(by apply aj:aa (by
 obtain ⟨A,ho,ar⟩:=R9 ds vals hwl hpl hwt;have hO:abr (Iw K s₁.heap A):=aj0 ar;have hok:JQ P w (Iw K s₁.heap A) s₁.heap:=anQ ar;have hS:=acQ KX ar ds vals hwl hpl ho;have hV:=Ff ho;have hK:∀b u,Iw K s₁.heap A b=some u->K.lookup b=none:=λb u q=>(Wj ar q).1;have noA:∀{b:Addr} {o:Obj} {es:Array DictEntry} {ep:Nat},s₁.heap.get? b=some o->o.data= .dict es ep->Iw K s₁.heap A b=none:=λ{b o es ep} e d=>by
  cases q:Iw K s₁.heap A b with
  |none=>rfl
  |some u=>
   obtain ⟨_,vs,_,_,⟨e2,_⟩ | ⟨e2,_⟩⟩:=Wj ar q
   ·rw [e2] at e;cases e;have d':adt vs.toArray _=Data.dict es ep:=d;cases d'
   ·rw [e2] at e;cases e;have d':adt vs.toArray _=Data.dict es ep:=d;cases d'
 generalize Iw K s₁.heap A=H at hO hok hS hK noA;have R7:∀{b:Addr} {o:Obj},s₁.heap.get? b=some o->H b=none->(RL s₁.heap H).get? b=some o:=λe n=>aeP e n;have nsK:∀{b:Addr} {m:Str->Option Value},s₁.heap.Ns b m->(RL s₁.heap H).Ns b m:=λ{b m} ⟨o,es,ep,e,d,r⟩=>⟨o,es,ep,R7 e (noA e d),d,r⟩;have nK:∀b o,K.lookup b=some o->H b=none:=λb o e=>by
  cases q:H b with
  |none=>rfl
  |some u=>
   rw [hK b u q] at e;cases e
 have hKb:K.In (RL s₁.heap H):=λb o e=>R7 (KX b o e) (nK b o e);have hM:Mod K mg (RL s₁.heap H):=⟨hKb,nsK hns,⟨mb,nsK hb,hbb⟩,let ⟨mc,h1,h2⟩:=hlim;⟨mc,nsK h1,h2⟩⟩;have e0:afj P w K mg (RL s₁.heap H) callerA [] s₁ H:=⟨rfl,hM,λb o e=>ahP e,Dy (aa9 _ _),trivial,λb hb=>absurd (show b∈([]:List Addr) from hb) (by simp),hok,.of_eq hg⟩;have hl:vals.length=ps.length:=by rw [J3 hwl];exact hlen
 refine codeAny_mono ((F _ hKb (nsK hns)).run callerA [] s₁ H ⟨vals,[]⟩ vals (vals.map toV) _ _ hr e0 (hbind s₁ vals hl) hV (hsp H _ hO hS)) λr s' x=>?_;cases r with
 |error e=>exact (hCX H e s' x).elim
 |ok fl=>
  cases fl with
  |next=>exact gZ x
  |brk=>exact gZ x
  |cont=>exact gZ x
  |ret u=>
   obtain ⟨v,H',os,bare,un,hok',r',q⟩:=x;have kept:∀b o,s₁.heap.get? b=some o->s'.heap.get? b=some o:=λb o e=>by
    cases q2:H b with
    |none=>exact un.keep b o e q2 (by intro z;exact absurd (show b∈([]:List Addr) from z) (by simp)) (by simp)
    |some u2=>
     rcases hO b with z | ⟨ob,u3,z⟩
     ·rw [q2] at z;cases z
     ·have z2:=un.V0 b ob _ z;obtain ⟨e1,_⟩:=hok b _ z;obtain ⟨e2,_⟩:=hok' b _ z2;rw [e] at e1;cases e1;exact e2
   have KX':K.In s'.heap:=λb o e=>kept b o (KX b o e);obtain ⟨as,hrd⟩:=Dw.reads (R:=R) (cl:=cl) hok' KX' d0 v u q r';exact ⟨u,as,rfl,hrd,OldK.of_keep kept,os,bare⟩))
theorem Yg{ds:List WData}(h:WData.layableAll ds=true):∀d∈ds,d.weight<=1048576:=λd hd=>
 (PySem.W.layableW_iff.mp (dH.mp h d hd)).2.2
theorem YT:∀(cs:List Codec) (a:Cw cs),(xQ cs a).length=cs.length
 |[],_=>rfl
 |c::cs,a=>by
  show (xQ cs a.2).length+1=cs.length+1;rw [YT cs a.2]
theorem aiA{r:OpenSpec}{k:Nat}{q:Program}{loose:List Str}{XP:(Str->Option Value)->Heap->Prop}{YP:World->Heap->Prop}{d:DefRec}{K:Params->az}{CX:World->CXT}{ps:List Str}{sp:World->Sp}(alK:r.wellSaid=true)(hdf:d.params.defaults=[])(hlen:r.args.length=ps.length)(hr:wg k callerA)(hY:∀(w:World) (h:Heap),YP w h->(K w.params).In h)(F:∀(w:World) (mg:Str->Option Value) (fa:Addr) (h:Heap),YP w h->(K w.params).In h->h.Ns mainGlobals mg->mg d.name=some (.ref fa)->
   ∃fd:FuncData,(∀(s:Shared) (us:List Value),us.length=ps.length->BindsTo s fd ⟨us,[]⟩ (ps.zip us))/\
    ∀base:Heap,(K w.params).In base->base.Ns mainGlobals mg->fU r.prog w (K w.params) mg base (CX w) k fa fd ps (sp w))(hsp:∀(w:World) (H:Hp) (xs:List V) (a:Cw r.args),abr H->abz r.args a=true->J0 r.args r.asked a=true->Gk (K w.params) H xs (xQ r.args a)->
   sp w xs H (λv H'=>Dw (K w.params) H' v (r.ret.enc (J0 r.args r.f a))) λ_ _ _=>False)(hCX:∀(w:World) (H:Hp) (s:Shared) (e:Value) (s':Shared),CX w [] H s (λ_ _ _=>False) e s'->False):
  PySem.W.WalkOS q loose XP YP r d [] (λf vs=>PySem.call f vs):=(by apply aj:aa (by
 intro w s_0 s₁ mg mb G Y fa o pm cd doc dV kV ho hd hcd hD hmg hg args vals as hpre hlay hrd hwl hlo;obtain ⟨a,e1,e2⟩:=PySem.W.os_pre_some hpre;obtain ⟨e3,hwi⟩:=Codec.encAll_of_decAll r.args args a e1;subst e3;have KX:=hY w _ Y;obtain ⟨fd,hb,hF⟩:=F w mg fa _ Y KX G.T.g hmg;refine PySem.W.enter_call (codeAny_mono (aiN (R:=[]) (cl:=classAt s_0.heap) (d0:=r.ret.enc (J0 r.args r.f a)) KX G.T.g G.T.b G.T.builtins G.T.nolimit hg hwl (aaX _ _) (Yg hlay) hr hF hb (by rw [YT];exact hlen)
  (λH xs hO hS=>hsp w H xs a hO hwi e2 hS) λH e s'=>hCX w H s₁ e s') λr' s' hq=>?_)
 obtain ⟨u,as',rfl,h1,h2,h3,h4⟩:=hq;exact ⟨.inl ⟨u,_,as',rfl,λ_=>rfl,h1,(OpenSpec.post_iff alK hwi _ _).mpr rfl,λz=>gq (show false=true from z)⟩,h2,h3,h4⟩))
theorem afH{r:OpenSpec}{k:Nat}{q:Program}{loose:List Str}{XP:(Str->Option Value)->Heap->Prop}{YP:World->Heap->Prop}{d:DefRec}{K:Params->az}{CX:CXT}{ps:List Str}{sp:az->Sp}(alK:r.wellSaid=true)(hdf:d.params.defaults=[])(hlen:r.args.length=ps.length)(hr:wg k callerA)(hY:∀(w:World) (h:Heap),YP w h->(K w.params).In h)(F:∀(w:World) (mg:Str->Option Value) (fa:Addr) (h:Heap),YP w h->(K w.params).In h->h.Ns mainGlobals mg->mg d.name=some (.ref fa)->
   ∃fd:FuncData,(∀(s:Shared) (us:List Value),us.length=ps.length->BindsTo s fd ⟨us,[]⟩ (ps.zip us))/\
    ∀base:Heap,(K w.params).In base->base.Ns mainGlobals mg->fU r.prog w (K w.params) mg base CX k fa fd ps (sp (K w.params)))(hsp:∀(K:az) (H:Hp) (xs:List V) (a:Cw r.args),abr H->abz r.args a=true->J0 r.args r.asked a=true->Gk K H xs (xQ r.args a)->
   sp K xs H (λv H'=>Dw K H' v (r.ret.enc (J0 r.args r.f a))) λ_ _ _=>False)(hCX:∀(H:Hp) (s:Shared) (e:Value) (s':Shared),CX [] H s (λ_ _ _=>False) e s'->False):
  PySem.W.WalkOS q loose XP YP r d [] (λf vs=>PySem.call f vs):=
 aiA (K:=K) (CX:=λ_=>CX) (sp:=λw=>sp (K w.params)) alK hdf hlen hr hY F (λw H xs a h1 h2 h3 h4=>hsp (K w.params) H xs a h1 h2 h3 h4) λ_ H s e s'=>hCX H s e s'
end L2
end
namespace L2.Tb
local macro_rules | `(tactic| omega) => `(tactic| first | lia | omega (config := {}))
section
open PySem
def TOk(t:SetTable):Prop:=t.place.toList.Pairwise (· <·)/\t.dummies=#[]
theorem Y7(xs:Array Nat)(j:Nat)(hr:xs.toList.Pairwise (· <·)):∀(fuel lo hi:Nat),hi - lo<=fuel->lo<=hi->hi<=xs.size->
  (∀i (h:i<xs.size),i<lo->xs[i]<j)->(∀i (h:i<xs.size),hi<=i->j<=xs[i])->
  ∃b,du.go xs j fuel lo hi=b/\b<=xs.size/\(∀i (h:i<xs.size),i<b->xs[i]<j)/\(∀i (h:i<xs.size),b<=i->j<=xs[i])
 |0,lo,hi,hf,hl,hs,h1,h2=>⟨lo,rfl,by omega,h1,λi h q=>h2 i h (by omega)⟩
 |fuel+1,lo,hi,hf,hl,hs,h1,h2=>by
  unfold du.go;by_cases c:lo<hi
  ·rw [if_pos c];have hm:(lo+hi)/2<xs.size:=by omega
   have mono:∀i k (hi:i<xs.size) (hk:k<xs.size),i<k->xs[i]<xs[k]:=λi k hi hk q=>by
    have:=ug.mp hr i k (by simpa using hi) (by simpa using hk) q;simpa using this
   have e:xs.getD ((lo+hi)/2) j=xs[(lo+hi)/2]:=by simp [Array.getD,hm]
   dsimp only;rw [e];by_cases d:xs[(lo+hi)/2]<j
   ·rw [if_pos d];refine Y7 xs j hr fuel _ _ (by omega) (by omega) hs (λi h q=>?_) h2;rcases Oc i ((lo+hi)/2) with q' | q'
    ·exact xN (mono i _ h hm q') d
    ·have:i=(lo+hi)/2:=by omega
     subst this;exact d
   ·rw [if_neg d];refine Y7 xs j hr fuel _ _ (by omega) (by omega) (by omega) h1 (λi h q=>?_);rcases Oc ((lo+hi)/2) i with q' | q'
    ·have:=mono _ i hm h q';omega
    ·have:i=(lo+hi)/2:=by omega
     subst this;omega
  ·rw [if_neg c];exact ⟨lo,rfl,by omega,h1,λi h q=>h2 i h (by omega)⟩
theorem R6(xs:Array Nat)(j:Nat)(hr:xs.toList.Pairwise (· <·)):
  du xs j<=xs.size/\(∀i (h:i<xs.size),i<du xs j->xs[i]<j)/\(∀i (h:i<xs.size),du xs j<=i->j<=xs[i]):=by
 obtain ⟨b,e,r⟩:=Y7 xs j hr xs.size 0 xs.size (by omega) (by omega) (by omega) (λi h q=>absurd q (by omega)) (λi h q=>absurd h (by omega));have:du xs j=b:=e;rw [this];exact r
theorem ajZ(xs:Array Nat)(hr:xs.toList.Pairwise (· <·))(i:Nat)(h:i<xs.size)(j:Nat)(h1:∀k (hk:k<xs.size),k<i->xs[k]<j)(h2:j<=xs[i]):du xs j=i:=by
 obtain ⟨a,b,c⟩:=R6 xs j hr;rcases Wr (du xs j) i with q | q | q
 ·have:=h1 _ (by omega) q;have:=c (du xs j) (by omega) (aU _);omega
 ·exact q
 ·have:=b i h q;omega
theorem agT(xs:Array Nat)(hr:xs.toList.Pairwise (· <·))(i:Nat)(h:i<xs.size):du xs (xs[i]+1)=i+1:=(by apply aj:aa (by
 obtain ⟨a,b,c⟩:=R6 xs (xs[i]+1) hr;have mono:∀i k (hi:i<xs.size) (hk:k<xs.size),i<k->xs[i]<xs[k]:=λi k hi hk q=>by
  have:=ug.mp hr i k (by simpa using hi) (by simpa using hk) q;simpa using this
 rcases Wr (du xs (xs[i]+1)) (i+1) with q | q | q
 ·have:=c i h (by omega);omega
 ·exact q
 ·have:=b (i+1) (by omega) q;have:=mono i (i+1) h (by omega) (by omega);omega))
theorem agS(xs:Array Nat)(hr:xs.toList.Pairwise (· <·)):du xs 0=0:=by
 obtain ⟨a,b,c⟩:=R6 xs 0 hr;rcases Vt (du xs 0) with q | q
 ·exact q
 ·have:=b 0 (by omega) q;omega
theorem afT{t:SetTable}(h:TOk t){j:Nat}(e:t.slot j= .empty):j∉t.place.toList:=(by apply aj:aa (by
 intro hm;obtain ⟨i,hi,ei⟩:=Am.mp hm;have hi':i<t.place.size:=by simpa using hi
 have ei':t.place[i]=j:=by simpa using ei
 have mono:∀i k (hi:i<t.place.size) (hk:k<t.place.size),i<k->t.place[i]<t.place[k]:=λi k hi hk q=>by
  have:=ug.mp h.1 i k (by simpa using hi) (by simpa using hk) q;simpa using this
 have b:du t.place j=i:=ajZ t.place h.1 i hi' j (λk hk q=>by have:=mono k i hk hi' q;omega) (by omega);unfold SetTable.slot at e;dsimp only at e;rw [b,if_pos (by rw [jO hi',ei'];simp)] at e;cases e))
theorem aoQ{t:SetTable}(h:TOk t){j:Nat}(hj:j∉t.place.toList):TOk (t.put j).1:=(by apply aj:aa (by
 obtain ⟨a,b,c⟩:=R6 t.place j h.1;refine ⟨?_,?_⟩
 ·show (SetTable.insertAt t.place (du t.place j) j).toList.Pairwise (· <·);rw [SetTable.toList_insertAt];refine List.pairwise_append.mpr ⟨h.1.sublist (List.take_sublist _ _),List.pairwise_cons.mpr ⟨λx hx=>?_,h.1.sublist (List.drop_sublist _ _)⟩,λx hx y hy=>?_⟩
  ·obtain ⟨i,hi,e⟩:=Am.mp hx;rw [List.getElem_drop] at e;have hi':du t.place j+i<t.place.size:=by simp at hi;omega
   have:=c _ hi' (gU _ _);have e2:t.place[du t.place j+i]=x:=by simpa using e
   rw [e2] at this;have:x≠j:=λz=>hj (z▸List.mem_of_mem_drop hx);omega
  ·obtain ⟨i,hi,e⟩:=Am.mp hx;rw [List.getElem_take] at e;simp only [bO,gb] at hi;have hi':i<t.place.size:=by omega
   have l1:=b i hi' (by omega);have e2:t.place[i]=x:=by simpa using e
   rw [e2] at l1;rcases bc.mp hy with z | z
   ·omega
   ·obtain ⟨i,hi,e⟩:=Am.mp z;rw [List.getElem_drop] at e;have hi':du t.place j+i<t.place.size:=by simp at hi;omega
    have:=c _ hi' (gU _ _);have e2:t.place[du t.place j+i]=y:=by simpa using e
    omega
 ·show (if SetTable.has t.dummies j then SetTable.eraseAt t.dummies (du t.dummies j) else t.dummies)=#[];rw [h.2];rfl))
theorem alk{t:SetTable}(h:TOk t)(j:Nat):t.slot j≠ .dummy:=by
 unfold SetTable.slot;rw [h.2];dsimp only;split
 ·exact λz=>nomatch z
 ·rw [if_neg (by simp [SetTable.has])];exact λz=>nomatch z
theorem ad5{t:SetTable}(h:TOk t)(f:Nat->Int)(x:Int):∀(fuel:Nat) (p:SetTable.Probe),p.dummy=none->∀j d,SetTable.probe.go t f x fuel p=some (.empty j d)->d=none/\t.slot j= .empty
 |0,p,hp,j,d,e=>by cases e
 |fuel+1,p,hp,j,d,e=>by
  unfold SetTable.probe.go at e;split at e
  ·rename_i q;injection e with e
   injection e with e1 e2
   subst e1 e2;exact ⟨hp,q⟩
  ·rename_i q;exact absurd q (alk h _)
  ·split at e
   ·injection e with e
    cases e
   ·refine ad5 h f x fuel _ ?_ j d e;unfold SetTable.advance;split
    ·exact hp
    ·exact hp
theorem anI{t:SetTable}(h:TOk t){x:Int}{j:Nat}{d:Bool}(e:t.freeSlot x=some (j,d)):j∉t.place.toList:=by
 unfold SetTable.freeSlot at e;split at e
 ·rename_i j' d' q;obtain ⟨rfl,q2⟩:=ad5 h _ _ _ _ (by rfl) _ _ q;injection e with e
  injection e with e1 e2
  have:j'=j:=e1;subst this;exact afT h q2
 ·cases e
theorem ad3(n:Nat):(Array.range n).toList.Pairwise (· <·):=by
 rw [Array.toList_range];exact ais
theorem GJ(t:SetTable)(n:Nat):TOk (t.standIn n):=⟨ad3 n,rfl⟩
theorem aco{t:SetTable}(h:TOk t)(n:Nat):TOk (t.orStandIn n)/\(t.orStandIn n).led=t.led:=by
 unfold SetTable.orStandIn;split
 ·exact ⟨h,rfl⟩
 ·exact ⟨GJ t n,rfl⟩
theorem ajl{t:SetTable}(h:TOk t)(es:Array (Int×Value))(x:Int)(v:Value):TOk (layNew t es x v).2.1/\(layNew t es x v).2.1.led=t.led:=by
 unfold layNew;split
 ·rename_i j d e;dsimp only;obtain ⟨a,b⟩:=aco (aoQ h (anI h e)) (SetTable.insertAt es (t.put j).2 (x,v)).size;exact ⟨a,b⟩
 ·exact ⟨GJ _ _,rfl⟩
theorem ad1{t:SetTable}(h:TOk t)(es:Array (Int×Value))(n:Nat):TOk (relayAll t es n).2.1/\(relayAll t es n).2.1.led=t.led:=(by apply aj:aa (by
 unfold relayAll;split
 ·rename_i t' o e;dsimp only;split
  ·unfold SetTable.relaid SetTable.laid at e;obtain ⟨ow,e1,e2⟩:=ahc.mp e;injection e2 with e2
   injection e2 with e3 e4
   subst e3;refine ⟨⟨?_,rfl⟩,rfl⟩;dsimp only;rw [List.map_filterMap];refine afB.filterMap (R:=(· <·)) _ (λa b ab x hx y hy=>?_) ais;simp only [adp,Option.mem_def,dO] at hx hy;obtain ⟨_,_,rfl⟩:=hx;obtain ⟨_,_,rfl⟩:=hy;exact ab
  ·exact ⟨GJ _ _,rfl⟩
 ·exact ⟨GJ _ _,rfl⟩))
noncomputable def sS (w:World):Bool:=w.params.followText "set-order"
noncomputable def Ys:Value->Int
 |.int n _=>n
 |_=>0
def QF(prog:Program)(w:World)(h:Heap)(a:Addr)(led:Bool)(ns:List Int):Prop:=
 ∃o es ep t,h.get? a=some o/\o.ExactSet/\o.data= .set es ep t/\ElemsOf (intKind prog w) es.toList/\(es.toList.map λe=>Ys e.2).Perm ns/\es.size<scanBound/\t.fits es.size=true/\TOk t/\t.led=led
section
variable {prog:Program} {w:World} {A:Around} {E:Value->Shared->Prop} {s:Shared}
noncomputable def step_dedup (σ:List Int) (k:Int):List Int:=if σ.any (· ==k) then σ else σ++[k]
theorem alJ(k:Int)(t:Tok):(intKind prog w).is k (.int k t)=true:=by simp [intKind,aaK]
theorem abe{l:List (Int×Value)}(h:ElemsOf (intKind prog w) l){e:Int×Value}(he:e∈l):∃t,e.2= .int (Ys e.2) t:=by
 obtain ⟨⟨k,hk,_⟩,_⟩:=h e he;obtain ⟨t,q⟩:=Value.isInt_shape (show aaK k e.2=true from hk);exact ⟨t,by rw [q];rfl⟩
theorem aeZ{l:List (Int×Value)}(h:ElemsOf (intKind prog w) l){e:Int×Value}(he:e∈l)(k:Int):(intKind prog w).is k e.2=decide (k=Ys e.2):=by
 obtain ⟨t,q⟩:=abe h he;have q2:(intKind prog w).is (Ys e.2) e.2=true:=by
  rw [q];exact alJ _ _
 exact KeyKind.is_eq_decide q2 k
theorem alF(led:Bool):QF prog w (s.heap.push {cls:=.type "set",dict:=none,data:=.set #[] 0 (.fresh 0 0 led)}) s.heap.objs.size led []:=
 ⟨_,#[],0,_,aR _ rfl,⟨rfl,rfl,rfl⟩,rfl,λe he=>(by simp at he),by simp,by decide,rfl,⟨afB.nil,rfl⟩,rfl⟩
theorem QF.keep{h h':Heap}{a:Addr}{led:Bool}{ns:List Int}(x:QF prog w h a led ns)(k:∀o,h.get? a=some o->h'.get? a=some o):QF prog w h' a led ns:=
 let ⟨o,es,ep,t,ho,r⟩:=x
 ⟨o,es,ep,t,k o ho,r⟩
theorem aeJ{h:Heap}{a:Addr}{o:Obj}{es es':Array (Int×Value)}{ep:Nat}{t t':SetTable}{led:Bool}{ns:List Int}(ho:h.get? a=some o)(hx:o.ExactSet)(hd:o.data= .set es ep t)(h1:ElemsOf (intKind prog w) es'.toList)(h2:(es'.toList.map λe=>Ys e.2).Perm ns)(h3:es'.size<scanBound)(h4:t'.fits es'.size=true)(h5:TOk t')(h6:t'.led=led):
  (h.update a (Vq es' t')).get? a=some {o with data:=.set es' (ep+1) t'}/\QF prog w (h.update a (Vq es' t')) a led ns:=by
 have g:(h.update a (Vq es' t')).get? a=some {o with data:=.set es' (ep+1) t'}:=by
  have q:=qK (Vq es' t') ho (by rw [putSet_of es' t' hd];rfl)
  rwa [putSet_of es' t' hd] at q
 exact ⟨g,_,es',ep+1,t',g,hx,rfl,h1,h2,h3,h4,h5,h6⟩
theorem aa6{G:Bool->Sem Unit}(hG:∀(b:Bool) (s1:Shared) (R:Unit->Shared->Prop),R () s1->wpAny (model prog w) A (G b) R E s1){a:Addr}{o:Obj}{es es1:Array (Int×Value)}{ep:Nat}{t t2:SetTable}{led:Bool}{ns:List Int}{dm:Bool}{R:Option Bool->Shared->Prop}(ho:s.heap.get? a=some o)(hx:o.ExactSet)(hd:o.data= .set es ep t)(h1:ElemsOf (intKind prog w) es1.toList)(h2:(es1.toList.map λe=>Ys e.2).Perm ns)(h3:es1.size<scanBound)(h4:t2.fits es1.size=true)(h5:TOk t2)(h6:t2.led=led)(hR:∀h',jj a s.heap h'->QF prog w h' a led ns->R (some true) {s with heap:=h'}):
  wpAny (model prog w) A (storeSet a es1 t2 >>= λ_=>
    if (!dm&&t2.tooFull)=true then G (relayAll t2 es1 (rF es1.size)).2.2 >>= λ_=>
      storeSet a (relayAll t2 es1 (rF es1.size)).1 (relayAll t2 es1 (rF es1.size)).2.1 >>= λ_=>pure (some true)
     else pure (some true)) R E s:=(by apply aj:aa (by
 obtain ⟨g1,i1⟩:=aeJ (prog:=prog) (w:=w) ho hx hd h1 h2 h3 h4 h5 h6;refine wpAny_bind (wpAny_storeSet_of ho hd ?_ (fits_of_scanBound h3));have b1:=S9 s.heap a (Vq es1 t2);split
 ·have p:=relayAll_perm t2 es1 (rF es1.size);have f:=relayAll_fits t2 es1 (rF es1.size);obtain ⟨k1,k2⟩:=ad1 h5 es1 (rF es1.size);have z:(relayAll t2 es1 (rF es1.size)).1.size=es1.size:=by
   have:=p.length_eq;simpa using this
  refine wpAny_bind (hG _ _ _ ?_);obtain ⟨_,i2⟩:=aeJ (prog:=prog) (w:=w) (led:=led) (ns:=ns) g1 hx rfl (h1.perm p) ((p.map _).trans h2) (by rw [z];exact h3) f k1 (k2.trans h6);refine wpAny_bind (wpAny_storeSet_of g1 rfl ?_ (fits_of_scanBound (by rw [z];exact h3)));exact wpAny_pure (hR _ (b1.trans (S9 _ a _)) i2)
 ·exact wpAny_pure (hR _ b1 i1)))
theorem alG{a:Addr}{led:Bool}{ns:List Int}{k:Int}{tk:Tok}{Q:Bool->Shared->Prop}(hS:QF prog w s.heap a led ns)(hr:ns.length+1<scanBound)(h:∀b h',jj a s.heap h'->QF prog w h' a led (step_dedup ns k)->Q b {s with heap:=h'}):
  wpAny (model prog w) A (setAddHashed a (.int k tk) ((intKind prog w).hash k)) Q E s:=(by apply aj:aa (by
 obtain ⟨o,es,ep,t,ho,hx,hd,h1,h2,h3,h4,h5,h6⟩:=hS;have hk:(intKind prog w).is k (.int k tk)=true:=alJ _ _;have z:es.size=ns.length:=by simpa using h2.length_eq
 unfold setAddHashed setAddHashedIn;refine wpAny_holding (wpAny_bind (wpAny_setState_of ho hd h4 ?_));dsimp only;rw [byScan_of (x:=.int k tk) rfl h3 h1];simp only [↓reduceIte];unfold setAddByScan;refine wpAny_bind ?_;refine wpAny_bind (wpAny_rule ?_);refine wpAny_bind (wpAny_setScan_of hk ho hd h4 h1 ?_);cases q:List.findIdx? (λe=>(intKind prog w).is k e.2) es.toList with
 |some j=>
  dsimp only;obtain ⟨hj,e,_⟩:=mK.mp q;have hm:k∈ns:=by
   rw [aeZ h1 (ZL hj) k] at e;have:=of_decide_eq_true e;exact h2.mem_iff.mp (cF.mpr ⟨_,ZL hj,this.symm⟩)
  have hd':step_dedup ns k=ns:=by
   unfold step_dedup;rw [if_pos (by simpa using hm)]
  refine wpAny_pure (wpAny_pure ?_);have:=h false s.heap (jj.refl a s.heap) (by rw [hd'];exact ⟨o,es,ep,t,ho,hx,hd,h1,h2,h3,h4,h5,h6⟩);cases s;exact this
 |none=>
  dsimp only;have hm:k∉ns:=λhm=>by
   obtain ⟨e,he,ev⟩:=cF.mp (h2.mem_iff.mpr hm);have:=Gp.mp q e he;rw [aeZ h1 he k,ev] at this;simp at this
  have hd':step_dedup ns k=ns++[k]:=by
   unfold step_dedup;rw [if_neg (by simpa using hm)]
  have p:=layNew_perm t es ((intKind prog w).hash k) (.int k tk);have f:=layNew_fits t es ((intKind prog w).hash k) (.int k tk);have ⟨k1,k2⟩:=ajl h5 es ((intKind prog w).hash k) (.int k tk);generalize layNew t es ((intKind prog w).hash k) (.int k tk)=L at p f k1 k2⊢;obtain ⟨es1,t1,dm,gv⟩:=L;dsimp only at p f k1 k2⊢;rw [Wy] at p;have g1:ElemsOf (intKind prog w) es1.toList:=(h1.push hk rfl).perm p;have g2:(es1.toList.map λe=>Ys e.2).Perm (step_dedup ns k):=by
   rw [hd'];refine (p.map _).trans ?_;rw [cT];exact h2.append_right _
  have z1:es1.size=ns.length+1:=by
   have:=p.length_eq;simp only [gb,aJ,akj] at this;omega
  have g3:es1.size<scanBound:=by rw [z1];exact hr
  cases gv
  case' false=>refine wpAny_bind (wpAny_pure ?_)
  case' true=>refine wpAny_bind (wpAny_rule ?_)
  all_goals
   split
   ·refine wpAny_bind ?_;rw [hashByValue_scannable 8 (x:=.int k tk) rfl];refine wpAny_pure ?_;refine aa6 (λb s1 R hR=>by cases b<;>first | exact wpAny_pure hR | exact wpAny_rule hR) ho hx hd g1 g2 g3 f k1 (k2.trans h6) λh' hb hi=>?_;exact wpAny_pure (h true h' hb hi)
   ·refine wpAny_bind (wpAny_pure ?_);simp only [↓reduceIte];refine aa6 (λb s1 R hR=>by cases b<;>first | exact wpAny_pure hR | exact wpAny_rule hR) ho hx hd g1 g2 g3 f k1 (k2.trans h6) λh' hb hi=>?_;exact wpAny_pure (h true h' hb hi)))
end
end
section
open PySem PyProof.Rows
theorem abg(l:List Int):∀(ns:List Int),(ns.foldl step_dedup l).length<=l.length+ns.length:=by
 intro ns
 induction ns generalizing l with
 |nil=>simp
 |cons n ns ih=>
  have:=ih (step_dedup l n);have:(step_dedup l n).length<=l.length+1:=by unfold step_dedup;split<;>simp
  simp only [Ov,aH];omega
theorem akS{a b c:Addr}(h1:a≠b)(h2:a≠c):a∉[b,c]:=by simp [h1,h2]
section
variable {prog:Program} {w:World} {A:Around} {R:Result->Shared->Prop} {I:Addr} {fp wr:List Addr} {G:Array GenState->Array GenState->Prop} {n:Nat} {P:Nat->Value->Prop} {St:Nat->Shared->Prop}
theorem ak4(W:WalksS prog w A.in1 I fp wr G n P St)(S:Addr)(hS:S∉fp)(led:Bool)(ns:List Int)(hl:ns.length=n)(hv:∀i v,P i v->∃t,v= .int (ns.getD i 0) t)(hb:n+1<scanBound):
  ∀(k i:Nat) (s:Shared),n - i=k->i<=n->St i s->QF prog w s.heap S led ((ns.take i).foldl step_dedup [])->
   (∀s',Moved (S::wr) G s s'->QF prog w s'.heap S led (ns.foldl step_dedup [])->R (.ok (.ret .none)) s')->
   codeAny (model prog w) A (.builtin "set.update.loop" ⟨[.ref S,.ref I],[]⟩) R s:=(by apply aj:aa (by
 have nw:S∉wr:=λz=>hS (W.sub _ z);have more:∀b∈wr,b∈S::wr:=λb z=>aV _ z;intro k
 induction k with
 |zero=>
  intro i s e1 e2 st x hR;have ei:i=n:=by omega
  rw [ei] at st;refine codeAny_builtin S5 ?_;rw [il ux _];refine wpAny_bind (W.done s _ _ st λs' m=>?_);refine wpAny_pure (hR s' (m.mono more) ?_);rw [ei,<-hl,lM] at x;exact x.keep λo q=>m.heap S o nw q
 |succ k ih=>
  intro i s e1 e2 st x hR;have li:i<n:=by omega
  refine codeAny_builtin S5 ?_;rw [il ux _];refine wpAny_bind (W.item i s _ _ li st λv s' hP st' m=>?_);obtain ⟨t,rfl⟩:=hv i v hP;have x':=x.keep (h':=s'.heap) λo q=>m.heap S o nw q;refine wpAny_bind (wpAny_holding ?_);unfold setAdd;refine wpAny_holding ?_;refine wpAny_bind ((intKind prog w).pyHash (alJ _ t) ?_);have room:((ns.take i).foldl step_dedup []).length+1<scanBound:=by
   have:=abg [] (ns.take i);simp only [bO,bF] at this;omega
  refine alG (s:={s' with toks:=s'.toks+1}) x' room λb h' sb x2=>?_;have e3:step_dedup ((ns.take i).foldl step_dedup []) (ns.getD i 0)=(ns.take (i+1)).foldl step_dedup []:=by
   have hi:i<ns.length:=by omega
   rw [<-afz hi,Wu];simp [cC,ak hi]
  rw [e3] at x2;refine wpAny_pure ⟨plainId_quiet ux _,ih (i+1) _ (by omega) li (W.frame _ s' _ _ st' (Ak _) λc hc o q=>?_) x2 λs2 m2 x3=>?_⟩
  ·rw [sb.2 c λz=>hS (z▸hc)];exact q
  ·refine hR s2 (Moved.trans W.gtrans ((m.mono more).then_heap (Ak _) λc o hc q=>?_) m2) x3;rw [sb.2 c λz=>hc (z▸bz)];exact q))
end
section
variable {prog:Program} {w:World} {A:Around} {E:Value->Shared->Prop} {s:Shared}
noncomputable abbrev xY (led:Bool):Obj:={cls:=.type "set",dict:=none,data:=.set #[] 0 (.fresh 0 0 led)}
theorem ak2(v:Value){Q:Value->Shared->Prop}(h:Q (.ref s.heap.objs.size) {s with heap:=s.heap.push (xY (!sS w))}):
  codeAny (model prog w) A (.call (.builtin "set.__new__") ⟨[.type "set",v],[]⟩) (wants Q E) s:=(by apply aj:aa (by
 refine codeAny_of_tree (wpAny_bind (wpAny_of_eq (PySem.F.newCall_set_1 v) (wpAny_pure ⟨plainId_quiet akg _,codeAny_builtin PySem.F.entry_set_new ?_⟩)));rw [il akg _];unfold Builtin.«set.__new__» Builtin.Frozenset.newClass;have q:=sub_set_self;obtain ⟨a1,a2,a3,a4,a5⟩:=s;dsimp only
 wp_walk
 refine wpAny_askSetting (wpAny_pure ?_);dsimp only;simp only [newObj];refine wpAny_bind (wpAny_alloc (wpAny_pure ?_));exact wpAny_pure h))
set_option maxHeartbeats 3200000 in
theorem ajX{l:Addr}{its:Array Value}{ns:List Int}{Q:Value->Shared->Prop}(hh:A.handled=none)(hl:s.heap.IsList l its)(hi:IntsAre its.toList ns)(hb:its.size+1<scanBound)(h:∀(h':Heap) (tk:Nat),QF prog w h' s.heap.objs.size (!sS w) (ns.foldl step_dedup [])->(∀b o,b<s.heap.objs.size->s.heap.get? b=some o->h'.get? b=some o)->
   Q (.ref s.heap.objs.size) {s with heap:=h',toks:=tk}):
  wpAny (model prog w) A (call (.type "set") [.ref l]) Q E s:=(by apply aj:aa (by
 obtain ⟨m1,m2,m3⟩:=jW.mro;have f1:=jW.made;have f2:=jW.sub;refine wpAny_call (codeAny_of_tree ?_);refine wpAny_pure ⟨Code.quiet_builtin _ (by decide+kernel),codeAny_builtin PySem.F.entry_type_call ?_⟩;rw [Around.under_plain (weight_type_call_type "set" [.ref l] []) rfl];have f3:=jW.notType;have f4:=jW.canCreate;have f5:=PySem.F.typeCall_set_1 (.ref l)
 repeat (any_goals (first | assumption | wp_step))
 refine codeAny_mono (ak2 (.ref l) (E:=E) (Q:=λv s1=>v= .ref s.heap.objs.size/\s1={s with heap:=s.heap.push (xY (!sS w))}) ⟨rfl,rfl⟩) λr s1 hr=>?_;cases r with
 |error e=>exact hr
 |ok fl=>
  cases fl with
  |ret v=>
   obtain ⟨rfl,rfl⟩:=hr;have g:(s.heap.push (xY (!sS w))).get? s.heap.objs.size=some (xY (!sS w)):=aR _ rfl;have ty:Shared.TypeIs {s with heap:=s.heap.push (xY (!sS w))} (.ref s.heap.objs.size) "set":=⟨_,g,rfl⟩;have f6:=jW.init.lookup;have f7:=jW.init.bind (.ref s.heap.objs.size)
   repeat (any_goals (first | assumption | wp_step))
   refine codeAny_mono (codeAny_call_builtin (R:=wants (λr s2=>r= .none/\∃h' tk,s2={s with heap:=h',toks:=tk}/\QF prog w h' s.heap.objs.size (!sS w) (ns.foldl step_dedup [])/\
     (∀b o,b<s.heap.objs.size->s.heap.get? b=some o->h'.get? b=some o)) E) jW.init.plain PySem.F.entry_set_init (check_set_init_1 ty ?_)) λr2 s2 hr2=>?_
   ·have hlen:=hi.length;obtain ⟨ol,g2,cl,nl,dl⟩:=hl;obtain ⟨o1,o2,o3,o4⟩:=ol;simp only at cl dl;subst cl;subst dl;have g3:(s.heap.push (xY (!sS w))).get? l=some {cls:=.type "list",dict:=o2,data:=.seq its nl,slots:=o4}:=aA _ g2;have f8:=PySem.F.sub_list_set;have f9:=PySem.F.sub_list_frozenset;have ne:(iM "list"==iM "dict")=false:=by decide
    have hl1:(s.heap.push (xY (!sS w))).IsList l its:=⟨_,g3,rfl,nl,rfl⟩;unfold Builtin.«set.__init__» noKeywords Builtin.Frozenset.updateFrom;generalize hPI:pyIter=PI
    wp_walk
    subst hPI;refine wpAny_pyIter_list hl1 (wpAny_bind (wpAny_runValue ?_));have lt:l<s.heap.objs.size:=aZ g2;have sz:(s.heap.push (xY (!sS w))).objs.size=s.heap.objs.size+1:=cQ _ _;refine ak4 ((Walks.list (by simp [hh]) _ l (by rw [sz];exact b8 (jD lt)) its).toS) s.heap.objs.size (by rw [sz];exact akS (b8 (jY _)) (j7 lt)) (!sS w) ns (by simpa using hlen.symm)
     (λi v q=>IntsAre.int_at hi i v (by rw [qL];exact q)) hb (its.size - 0) 0 _ (by omega) (eX _) ⟨⟨_,aR _ rfl,rfl,rfl⟩,(hl1.push _)⟩
     (QF.keep (alF _) λo q=>aA _ q) λs3 m x=>?_
    obtain ⟨b1,b2,b3,b4,b5⟩:=s3;have z1:b2=s.gens:=m.gens;have z2:b3=s.drawn:=m.drawn;have z3:b5=s.os:=m.os;subst z1 z2 z3;refine wpAny_pure ?_;refine wpAny_pure ⟨rfl,b1,b4,rfl,x,λb o hlt q=>?_⟩;exact m.heap b o (by rw [sz];exact akS (b8 hlt) (b8 (jD hlt))) (aA _ (aA _ q))
   ·cases r2 with
    |error e=>exact hr2
    |ok fl2=>
     cases fl2 with
     |ret r=>
      obtain ⟨rfl,h',tk,rfl,x,kp⟩:=hr2
      repeat (any_goals (first | assumption | wp_step))
      exact h _ _ x kp
     |_=>exact hr2.elim
  |_=>exact hr.elim))
end
end
section
open PySem
abbrev SIt(h:Heap)(I a:Addr)(f:Value)(i n ep:Nat):Prop:=
 h.get? I=some {cls:=.type "set_iterator",dict:=none,data:=.fields #[f,rawInt i,.ref a,rawInt n,rawInt ep],slots:=#[]}
structure wB(h:Heap)(a:Addr)(es:Array (Int×Value))(ep:Nat)(t:SetTable):Prop where
 obj:∃o,h.get? a=some o/\o.ExactSet/\o.data= .set es ep t
 fit:t.fits es.size=true
theorem wB.keep{h h':Heap}{a:Addr}{es:Array (Int×Value)}{ep:Nat}{t:SetTable}(x:wB h a es ep t)(k:∀o,h.get? a=some o->h'.get? a=some o):wB h' a es ep t:=
 let ⟨⟨o,ho,r⟩,f⟩:=x
 ⟨⟨o,k o ho,r⟩,f⟩
theorem jm:Slot "set_iterator" "__next__" "set_iterator.__next__":=
 .of (owner:="set_iterator") (n:="__next__") (by rw [typeLookup_type,builtinLookup_eq_fast];kernel_rfl) (by decide+kernel) (by decide+kernel) (by decide+kernel)
  (by first | exact .inl (by decide+kernel) | exact .inr (by decide+kernel)) (by rw [isSubtype_type];kernel_rfl)
theorem vO:entryFor table "set_iterator.__next__"=some Builtin.«set_iterator.__next__»:=entryFor_of_tree (by kernel_rfl)
theorem ai4:Manifest.owners.lookup (String.ofList "rotareti_tes".toList.reverse)=some Manifest.sig_set_iterator:=by kernel_rfl
theorem xJ(a:Value):argsOk "set_iterator.__next__" ⟨[a],[]⟩:=by
 unfold argsOk;rw [signature?_of (id:="set_iterator.__next__") (n:="__txen__".toList) (o:="rotareti_tes".toList) (by kernel_rfl) ai4]
 kernel_rfl
section
variable {prog:Program} {w:World} {A:Around} {E:Value->Shared->Prop} {s:Shared} {I a:Addr} {es:Array (Int×Value)} {ep:Nat} {t:SetTable}
theorem adP{Q:Option Value->Shared->Prop}{h1:Heap}(hh:A.handled=none)(hx:aaM I s.heap h1)(hQ:∀h',aaM I s.heap h'->Q none {s with heap:=h'}):
  wpAny (model prog w) A.in1 (newExc (.type "StopIteration") [] >>= λe=>raiseNew e) (λfin s'=>∃v,fin=Fin.done (Flow.ret v)/\wpAny (model prog w) A (pure (some v)) Q E s')
   (λe s'=>wpAny (model prog w) A (isInstance e (.type "StopIteration") >>= λb=>if b=true then pure none else throw e) Q E s') {s with heap:=h1}:=(by apply aj:aa (by
 refine wpAny_bind ?_;simp only [newExc,newTuple];refine wpAny_bind (wpAny_newObj_type ?_ (by size_fits));refine wpAny_bind (m:=firstArgMember _ _) (wpAny_of_eq (a:=Ey) (by first | rfl | (simp only [firstArgMember];rfl)) ?_);refine wpAny_newObj_type ?_ (by size_fits);simp only [raiseNew];refine wpAny_bind (wpAny_handled ?_);rw [show A.in1.handled=none from hh];refine wpAny_bind (wpAny_pure (wpAny_throw ?_));refine wpAny_bind (wpAny_isInstance (T:="StopIteration") (b:=true) ⟨_,aR _ rfl,rfl⟩ isSubtype_stop ?_);exact wpAny_pure (hQ _ ((hx.push _).push _))))
theorem ahB{sl i nx:Nat}{x:Value}{Q:Option Value->Shared->Prop}(hI:SIt s.heap I a (rawInt sl) i es.size ep)(hs:wB s.heap a es ep t)(hn:∀Q' E',Q' (some (x,nx)) s->wpAny (model prog w) A.in1 (setNext a sl i ep) Q' E' s)(hQ:∀h',SIt h' I a (rawInt nx) (i+1) es.size ep->jj I s.heap h'->Q (some x) {s with heap:=h'}):wpAny (model prog w) A (pyNext (.ref I)) Q E s:=(by apply aj:aa (by
 have hT:s.TypeIs (.ref I) "set_iterator":=⟨_,hI,rfl⟩;obtain ⟨⟨o,ho,hx,hd⟩,hf⟩:=id hs;unfold pyNext;refine wpAny_bind (wpAny_attempt (wpAny_callSpecial?_slot (name:=bA "__next__") hT jm (wpAny_call_entry jm hT vO ?_ (xJ _))));refine wpAny_bind (wpAny_pure (wpAny_bind (wpAny_fieldsOf hI rfl ?_)));dsimp only [rawInt];refine wpAny_bind (wpAny_setEntries_of ho hd hf ?_);rw [if_neg (by simp)];simp only [gA];refine wpAny_bind (hn _ _ ?_);dsimp only;refine wpAny_bind (wpAny_setField_rec hI (by simp) λh1 e1 b1=>?_);refine wpAny_bind (wpAny_setField_rec (s:={s with heap:=h1}) e1 (by simp) λh2 e2 b2=>?_);refine wpAny_pure ⟨_,rfl,wpAny_pure (hQ h2 ?_ (b1.trans b2))⟩;have z:((i+1:Nat):Int)=(i:Int)+1:=by omega
 unfold SIt;rw [z];simpa [rawInt] using e2))
theorem U6{sl i:Nat}{Q:Option Value->Shared->Prop}(hh:A.handled=none)(hI:SIt s.heap I a (rawInt sl) i es.size ep)(hs:wB s.heap a es ep t)(hn:∀Q' E',Q' none s->wpAny (model prog w) A.in1 (setNext a sl i ep) Q' E' s)(hQ:∀h',aaM I s.heap h'->Q none {s with heap:=h'}):wpAny (model prog w) A (pyNext (.ref I)) Q E s:=(by apply aj:aa (by
 have hT:s.TypeIs (.ref I) "set_iterator":=⟨_,hI,rfl⟩;obtain ⟨⟨o,ho,hx,hd⟩,hf⟩:=id hs;unfold pyNext;refine wpAny_bind (wpAny_attempt (wpAny_callSpecial?_slot (name:=bA "__next__") hT jm (wpAny_call_entry jm hT vO ?_ (xJ _))));refine wpAny_bind (wpAny_pure (wpAny_bind (wpAny_fieldsOf hI rfl ?_)));dsimp only [rawInt];refine wpAny_bind (wpAny_setEntries_of ho hd hf ?_);rw [if_neg (by simp)];simp only [gA];refine wpAny_bind (hn _ _ ?_);dsimp only;refine wpAny_bind (wpAny_setField_rec hI (by simp) λh1 e1 b1=>?_);exact adP hh b1.extBut hQ))
theorem amR{T:Addr}{o':Obj}{ps:Array Value}{i pl c:Nat}{tk:Tok}{h x:Int×Value}{Q:Option Value->Shared->Prop}(hI:SIt s.heap I a (.ref T) i es.size ep)(hs:wB s.heap a es ep t)(hT':s.heap.get? T=some {cls:=.type "tuple",data:=.seq ps c})(hp:ps[i]? =some (.int pl tk))(he:es[pl]? =some x)(hQ:∀h',SIt h' I a (.ref T) (i+1) es.size ep->jj I s.heap h'->Q (some x.2) {s with heap:=h'}):wpAny (model prog w) A (pyNext (.ref I)) Q E s:=(by apply aj:aa (by
 have hT:s.TypeIs (.ref I) "set_iterator":=⟨_,hI,rfl⟩;obtain ⟨⟨o,ho,hx,hd⟩,hf⟩:=id hs;unfold pyNext;refine wpAny_bind (wpAny_attempt (wpAny_callSpecial?_slot (name:=bA "__next__") hT jm (wpAny_call_entry jm hT vO ?_ (xJ _))));refine wpAny_bind (wpAny_pure (wpAny_bind (wpAny_fieldsOf hI rfl ?_)));dsimp only [rawInt];refine wpAny_bind (wpAny_setEntries_of ho hd hf ?_);rw [if_neg (by simp)];simp only [gA];refine wpAny_bind ?_;unfold seqItems?;refine wpAny_bind (wpAny_load hT' (wpAny_pure ?_));dsimp only;rw [hp];dsimp only;refine wpAny_bind ?_;unfold setNextDrawn;refine wpAny_bind (wpAny_setState_of ho hd hf ?_);dsimp only;rw [if_neg (by simp)];simp only [gA,he];refine wpAny_pure ?_;refine wpAny_bind (wpAny_setField_rec hI (by simp) λh1 e1 b1=>?_);refine wpAny_pure ⟨_,rfl,wpAny_pure (hQ h1 ?_ b1)⟩;have z:((i+1:Nat):Int)=(i:Int)+1:=by omega
 unfold SIt;rw [z];simpa [rawInt] using e1))
theorem adO{T:Addr}{ps:Array Value}{i c:Nat}{Q:Option Value->Shared->Prop}(hh:A.handled=none)(hI:SIt s.heap I a (.ref T) i es.size ep)(hs:wB s.heap a es ep t)(hT':s.heap.get? T=some {cls:=.type "tuple",data:=.seq ps c})(hp:ps[i]? =none)(hQ:∀h',aaM I s.heap h'->Q none {s with heap:=h'}):wpAny (model prog w) A (pyNext (.ref I)) Q E s:=(by apply aj:aa (by
 have hT:s.TypeIs (.ref I) "set_iterator":=⟨_,hI,rfl⟩;obtain ⟨⟨o,ho,hx,hd⟩,hf⟩:=id hs;unfold pyNext;refine wpAny_bind (wpAny_attempt (wpAny_callSpecial?_slot (name:=bA "__next__") hT jm (wpAny_call_entry jm hT vO ?_ (xJ _))));refine wpAny_bind (wpAny_pure (wpAny_bind (wpAny_fieldsOf hI rfl ?_)));dsimp only [rawInt];refine wpAny_bind (wpAny_setEntries_of ho hd hf ?_);rw [if_neg (by simp)];simp only [gA];refine wpAny_bind ?_;unfold seqItems?;refine wpAny_bind (wpAny_load hT' (wpAny_pure ?_));dsimp only;rw [hp];dsimp only;refine wpAny_bind (wpAny_setField_rec hI (by simp) λh1 e1 b1=>?_);refine wpAny_bind (wpAny_setField_rec (s:={s with heap:=h1}) e1 (by simp) λh2 e2 b2=>?_);exact adP (s:=s) hh (b1.trans b2).extBut hQ))
theorem Wz{M:Model}{α:Type}{c:Prop}[Decidable c]{x y:Sem α}{Q:α->Shared->Prop}(hc:c)(h:wpAny M A x Q E s):wpAny M A (if c then x else y) Q E s:=by
 rw [if_pos hc];exact h
theorem Td{M:Model}{α:Type}{c:Prop}[Decidable c]{x y:Sem α}{Q:α->Shared->Prop}(hc:¬c)(h:wpAny M A y Q E s):wpAny M A (if c then x else y) Q E s:=by
 rw [if_neg hc];exact h
theorem Qq{α:Type}:∀(l:List α) (i:Nat) (h:i<l.length),(l[i]::l.eraseIdx i).Perm l
 |x::l,0,h=>by simp
 |x::l,i+1,h=>by
  simp only [List.getElem_cons_succ,List.eraseIdx_cons_succ];exact (ahk.swap _ _ _).trans ((Qq l i (by simpa using h)).cons x)
theorem aaY{α:Type}(f:Nat->Nat):∀(n k:Nat) (l:List α) (out:Array α),l.length<=n->(pickOrder.go f n k l out).toList.Perm (out.toList++l)
 |0,k,l,out,h=>by
  have:l=[]:=Ao (by omega);subst this;simp [pickOrder.go]
 |n+1,k,l,out,h=>by
  unfold pickOrder.go;cases l with
  |nil=>simp
  |cons y l=>
   have hi:f k%(y::l).length<(y::l).length:=Vr _ (by simp);rw [ak hi];dsimp only;refine (aaY f n (k+1) _ _ (by rw [akG,if_pos hi];omega)).trans ?_;rw [Wy,mZ];refine ahk.append_left _ ?_;exact Qq _ _ hi
theorem aes(hw:sS w=true)(hs:wB s.heap a es ep t)(sl i:Nat){Q:Option (Value×Nat)->Shared->Prop}(h:Q (((pickOrder (w.params.setOrder a ep) es)[i]?).map λe=>(e.2,sl)) s):
  wpAny (model prog w) A (setNext a sl i ep) Q E s:=(by apply aj:aa (by
 obtain ⟨⟨o,ho,hx,hd⟩,hf⟩:=id hs;unfold setNext;refine wpAny_bind (wpAny_setState_of ho hd hf ?_);dsimp only;refine wpAny_bind ?_;unfold setsByText;refine wpAny_bind (wpAny_askSetting (wpAny_pure ?_));refine Wz hw (Td (by simp) ?_);refine wpAny_bind ?_;unfold setWalk;refine wpAny_bind (wpAny_setState_of ho hd hf ?_);dsimp only;refine wpAny_bind ?_;unfold setsByText;refine wpAny_bind (wpAny_askSetting (wpAny_pure ?_));refine Wz hw ?_;refine wpAny_bind (wpAny_askSetting (wpAny_pure ?_));exact wpAny_pure h))
theorem aet(hw:sS w=false)(hs:wB s.heap a es ep t)(hp:(!t.plain&&decide (es.size>1))=false)(hl:t.led=true)(sl i:Nat){Q:Option (Value×Nat)->Shared->Prop}(h:Q (match es[du t.place sl]?,t.place[du t.place sl]? with | some (_,x),some j=>some (x,j+1) | _,_=>none) s):
  wpAny (model prog w) A (setNext a sl i ep) Q E s:=(by apply aj:aa (by
 obtain ⟨⟨o,ho,hx,hd⟩,hf⟩:=id hs;unfold setNext;refine wpAny_bind (wpAny_setState_of ho hd hf ?_);dsimp only;refine wpAny_bind ?_;unfold setsByText;refine wpAny_bind (wpAny_askSetting (wpAny_pure ?_));refine Td (λz=>absurd (hw.symm.trans z) (by decide)) (Td (λz=>absurd (hp.symm.trans z) (by decide)) ?_);refine wpAny_bind ?_;have e:(!t.led&& !es.isEmpty)=false:=by rw [hl];rfl
 exact Td (λz=>absurd (e.symm.trans z) (by decide)) (wpAny_pure (wpAny_pure h))))
end
structure Sw(prog:Program)(w:World)(I:Addr)(fp:List Addr)(ord:List Value)(St:Nat->Heap->Prop):Prop where
 frame:∀i h h',St i h->(∀b∈fp,∀o,h.get? b=some o->h'.get? b=some o)->St i h'
 item:∀(A:Around) (i:Nat) (v:Value) (s:Shared) (Q:Option Value->Shared->Prop) (E:Value->Shared->Prop),ord[i]? =some v->St i s.heap->
  (∀h',St (i+1) h'->(∀b o,b≠I->s.heap.get? b=some o->h'.get? b=some o)->Q (some v) {s with heap:=h'})->wpAny (model prog w) A (pyNext (.ref I)) Q E s
 done:∀(A:Around),A.handled=none->∀(s:Shared) (Q:Option Value->Shared->Prop) (E:Value->Shared->Prop),St ord.length s.heap->
  (∀h',(∀b o,b≠I->s.heap.get? b=some o->h'.get? b=some o)->Q none {s with heap:=h'})->wpAny (model prog w) A (pyNext (.ref I)) Q E s
section
variable {prog:Program} {w:World} {I a:Addr} {es:Array (Int×Value)} {ep:Nat} {t:SetTable}
theorem Qs{h h':Heap}{I:Addr}(x:jj I h h'):∀b o,b≠I->h.get? b=some o->h'.get? b=some o:=λb o n e=>x.extBut b o n e
theorem aoG(hw:sS w=true)(ne:a≠I):
  Sw prog w I [I,a] ((pickOrder (w.params.setOrder a ep) es).toList.map (·.2)) (λi h=>SIt h I a (rawInt 0) i es.size ep/\wB h a es ep t) where
 frame:=λi h h' st k=>⟨k I (by simp) _ st.1,st.2.keep λo e=>k a (by simp) o e⟩
 item:=λA i v s Q E hv st hQ=>by
  rw [aW,dO] at hv;obtain ⟨e,he,rfl⟩:=hv;rw [qL] at he;refine ahB (x:=e.2) (sl:=0) (nx:=0) st.1 st.2 (λQ' E' q=>aes hw st.2 0 i (by rw [he];exact q)) λh' i2 b=>?_;exact hQ h' ⟨i2,st.2.keep λo e=>Qs b a o ne e⟩ (Qs b)
 done:=λA hh s Q E st hQ=>by
  refine U6 (sl:=0) hh st.1 st.2 (λQ' E' q=>aes hw st.2 0 _ ?_) λh' b=>hQ h' λc o n e=>b c o n e;rw [xR (by simp)];exact q
theorem aoI(hw:sS w=false)(ne:a≠I)(hp:(!t.plain&&decide (es.size>1))=false)(hl:t.led=true)(ht:TOk t):
  Sw prog w I [I,a] (es.toList.map (·.2)) (λi h=>(∃sl:Nat,SIt h I a (rawInt sl) i es.size ep/\du t.place sl=i)/\wB h a es ep t) where
 frame:=λi h h' st k=>⟨let ⟨sl,x,y⟩:=st.1;⟨sl,k I (by simp) _ x,y⟩,st.2.keep λo e=>k a (by simp) o e⟩
 item:=λA i v s Q E hv st hQ=>by
  rw [aW,dO] at hv;obtain ⟨e,he,rfl⟩:=hv;rw [qL] at he;obtain ⟨⟨sl,x,y⟩,z⟩:=id st;have fz:t.place.size=es.size:=by
   have:=z.fit;simp only [SetTable.fits,bf,beq_iff_eq] at this;exact this.1
  obtain ⟨hi,_⟩:=Array.getElem?_eq_some_iff.mp he;have hi':i<t.place.size:=by omega
  refine ahB (x:=e.2) (sl:=sl) (nx:=t.place[i]+1) x z (λQ' E' q=>aet hw z hp hl sl i ?_) λh' i2 b=>?_
  ·rw [y,he,jO hi'];exact q
  ·exact hQ h' ⟨⟨_,i2,agT _ ht.1 i hi'⟩,z.keep λo e=>Qs b a o ne e⟩ (Qs b)
 done:=λA hh s Q E st hQ=>by
  obtain ⟨⟨sl,x,y⟩,z⟩:=id st;refine U6 (sl:=sl) hh x z (λQ' E' q=>aet hw z hp hl sl _ ?_) λh' b=>hQ h' λc o n e=>b c o n e;rw [y,xR (by simp)];exact q
theorem aoH{T:Addr}{ps:List Nat}{c:Nat}(ne:a≠I)(nt:T≠I)(hps:ps.Perm (iR es.size)):
  Sw prog w I [I,a,T] (ps.filterMap λp=>es[p]?.map (·.2)) (λi h=>SIt h I a (.ref T) i es.size ep/\wB h a es ep t/\h.get? T=some {cls:=.type "tuple",data:=.seq (ps.map λ(p:Nat)=>rawInt p).toArray c}) where
 frame:=λi h h' st k=>⟨k I (by simp) _ st.1,st.2.1.keep λo e=>k a (by simp) o e,k T (by simp) _ st.2.2⟩
 item:=λA i v s Q E hv st hQ=>by
  have all:∀p∈ps,p<es.size:=λp m=>adq.mp (hps.mem_iff.mp m);have hg:∀(l:List Nat),(∀p∈l,p<es.size)->∀i:Nat,(l.filterMap λp=>es[p]?.map (·.2))[i]? =(l[i]?).bind λp=>es[p]?.map (·.2):=by
   intro l
   induction l with
   |nil=>simp
   |cons p l ih=>
    intro h i;have hp:=h p bz;rw [fZ,jO hp];cases i with
    |zero=>simp [jO hp]
    |succ i=>simpa using ih (λq m=>h q (aV _ m)) i
  rw [hg ps all i] at hv;obtain ⟨p,e1,e2⟩:=ahc.mp hv;obtain ⟨x,e3,rfl⟩:=dO.mp e2;refine amR (h:=x) (o':={cls:=.type "tuple"}) (pl:=p) (tk:=0) (x:=x) st.1 st.2.1 st.2.2 (by simp [e1,rawInt]) e3 λh' i2 b=>?_;exact hQ h' ⟨i2,st.2.1.keep λo e=>Qs b a o ne e,Qs b T _ nt st.2.2⟩ (Qs b)
 done:=λA hh s Q E st hQ=>by
  have all:∀p∈ps,p<es.size:=λp m=>adq.mp (hps.mem_iff.mp m);have hl:∀(l:List Nat),(∀p∈l,p<es.size)->(l.filterMap λp=>es[p]?.map (·.2)).length=l.length:=by
   intro l
   induction l with
   |nil=>simp
   |cons p l ih=>
    intro h;rw [fZ,jO (h p bz)];simpa using ih λq m=>h q (aV _ m)
  rw [hl ps all] at st;exact adO hh st.1 st.2.1 st.2.2 (by simp) λh' b=>hQ h' λc o n e=>b c o n e
theorem YS:entryFor table "set.__iter__"=some Builtin.«frozenset.__iter__»:=
 entryFor_alias (id':="frozenset.__iter__") (by rw [fastTable_eq_tree];kernel_rfl) rfl (by decide+kernel) (by rw [fastTable_eq_tree];kernel_rfl)
end
section
variable {prog:Program} {w:World} {A:Around} {E:Value->Shared->Prop} {s:Shared} {a:Addr} {es:Array (Int×Value)} {ep:Nat} {t:SetTable}
theorem afF{M:Model}{src:Source}{n:Nat}{Q:Nat->Shared->Prop}(hn:n≠0)(h:∀i d,i<n->Q i {s with drawn:=d}):wpAny M A (choose src n) Q E s:=λΓ p _=>by
 unfold choose;rw [Sem.wp_choose];exact ⟨hn,h _ _ (Vr _ (by omega))⟩
theorem aid{M:Model}{α:Type}:∀(n:Nat) (xs:List α) (s:Shared) (Q:List α->Shared->Prop),xs.length=n->(∀ys d,ys.Perm xs->Q ys {s with drawn:=d})->wpAny M A (drawOrder n xs) Q E s
 |0,xs,s,Q,hl,h=>by
  have:xs=[]:=Ao hl;subst this;unfold drawOrder;exact wpAny_pure (h [] s.drawn .rfl)
 |n+1,[],s,Q,hl,h=>by cases hl
 |n+1,x::xs,s,Q,hl,h=>by
  unfold drawOrder;refine wpAny_bind (afF (by simp) λi d hi=>?_);rw [ak hi];dsimp only;refine wpAny_bind (aid n _ {s with drawn:=d} _ (by rw [akG,if_pos hi];simp at hl⊢;omega) λys d' p=>?_);exact wpAny_pure (h _ d' ((p.cons _).trans (Qq _ i hi)))
theorem ak3(hs:wB s.heap a es ep t)(ht:TOk t)(hl:t.led= !sS w)(hz:es.size<=sizeLine){Q:Value->Shared->Prop}(hQ:∀(I:Addr) (fp:List Addr) (ord:List Value) (St:Nat->Heap->Prop) (h':Heap) (d:Drawn),ord.Perm (es.toList.map (·.2))->Sw prog w I fp ord St->St 0 h'->s.heap.objs.size<=I->I<h'.objs.size->
   (∀b∈fp,b=a\/s.heap.objs.size<=b)->(∀b o,s.heap.get? b=some o->h'.get? b=some o)->Q (.ref I) {s with heap:=h',drawn:=d}):
  wpAny (model prog w) A (pyIter (.ref a)) Q E s:=(by apply aj:aa (by
 obtain ⟨⟨o,ho,hx,hd⟩,hf⟩:=id hs;have hT:s.TypeIs (.ref a) "set":=⟨o,ho,hx.1⟩;have la:a<s.heap.objs.size:=aZ ho;refine wpAny_pyIter_slot hT akf (wpAny_call_entry akf hT YS ?_ (PySem.F.args_set_iter_1 _));unfold Builtin.«frozenset.__iter__» Builtin.Frozenset.slot0 slotArgs;simp only [List.isEmpty_nil,gV,cD,↓reduceIte,bind_assoc,bF,bne_self_eq_false];unfold Builtin.Frozenset.addrOf Builtin.Frozenset.sizeOf;refine wpAny_bind (wpAny_pure ?_)
 try dsimp only
 refine wpAny_bind (wpAny_pure ?_);refine wpAny_bind (wpAny_bind (wpAny_setEntries_of ho hd hf (wpAny_pure ?_)));refine wpAny_bind ?_;unfold setDrawn;refine wpAny_bind (wpAny_setState_of ho hd hf ?_);dsimp only;refine wpAny_bind ?_;unfold setsByText;refine wpAny_bind (wpAny_askSetting (wpAny_pure ?_));refine wpAny_pure ?_;cases hc:(!sS w&&(!t.plain&&decide (es.size>1))) with
 |true=>
  refine Wz hc ?_;refine wpAny_bind (aid es.size _ s _ List.length_range λys d p=>?_);have hy:ys.length=es.size:=by simpa using p.length_eq
  refine wpAny_bind (wpAny_newTuple ?_ (by rw [ao,hy];exact hz));have ho1:(s.heap.push {cls:=.type "tuple",data:=.seq (ys.map λ(p:Nat)=>rawInt p).toArray}).get? a=some o:=aA _ ho;refine wpAny_bind (wpAny_setEpoch_of (s:={s with heap:=s.heap.push {cls:=.type "tuple",data:=.seq (ys.map λ(p:Nat)=>rawInt p).toArray},drawn:=d}) ho1 hd hf ?_);refine wpAny_bind (wpAny_newObj_type ?_);refine wpAny_pure ⟨_,rfl,"set_iterator",_,⟨_,aR _ rfl,rfl⟩,jm.lookup,?_⟩;have sz:(s.heap.push {cls:=.type "tuple",data:=.seq (ys.map λ(p:Nat)=>rawInt p).toArray}).objs.size=s.heap.objs.size+1:=cQ _ _;refine hQ _ _ _ _ _ d ?_ (aoH (T:=s.heap.objs.size) (t:=t) (ep:=ep) (es:=es) (ps:=ys) (c:=0) (a:=a) (by dsimp only;rw [sz];exact b8 (jD la)) (by dsimp only;rw [sz];exact b8 (jY _)) p)
   ⟨aR _ rfl,⟨⟨o,aA _ ho1,hx,hd⟩,hf⟩,aA _ (aR _ rfl)⟩ (by dsimp only;rw [sz];exact Ak _) (by dsimp only;simp only [cQ];exact jY _) (λb hb=>?_) λb o' e=>aA _ (aA _ e)
  ·refine (p.filterMap _).trans ?_;have e2:(iR es.size).filterMap (λp=>es[p]?.map (·.2))=es.toList.map (·.2):=by
    rw [<-filterMap_getElem?_range es,List.map_filterMap]
   rw [e2]
  ·dsimp only at hb;rw [sz] at hb;simp only [bc,bU,or_false] at hb;rcases hb with z | z | z<;>subst z<;>first | exact .inl rfl | exact .inr (aU _) | exact .inr (Ak _)
 |false=>
  refine Td (λz=>absurd (hc.symm.trans z) (by decide)) ?_;refine wpAny_bind (wpAny_pure ?_);refine wpAny_bind (wpAny_setEpoch_of ho hd hf ?_);refine wpAny_bind (wpAny_newObj_type ?_);refine wpAny_pure ⟨_,rfl,"set_iterator",_,⟨_,aR _ rfl,rfl⟩,jm.lookup,?_⟩;have st:wB (s.heap.push {cls:=.type "set_iterator",data:=.fields #[rawInt 0,rawInt 0,.ref a,rawInt es.size,rawInt ep]}) a es ep t:=⟨⟨o,aA _ ho,hx,hd⟩,hf⟩;have ne:a≠s.heap.objs.size:=b8 la;have two:∀b∈[s.heap.objs.size,a],b=a\/s.heap.objs.size<=b:=λb hb=>by
   simp only [bc,bU,or_false] at hb;rcases hb with z | z<;>subst z<;>first | exact .inl rfl | exact .inr (aU _) | exact .inr (Ak _)
  cases hw:sS w with
  |true=>
   refine hQ _ _ _ _ _ s.drawn ?_ (aoG (t:=t) (ep:=ep) (es:=es) hw ne) ⟨aR _ rfl,st⟩ (aU _) (by rw [cQ];exact jY _) two λb o' e=>aA _ e;refine ahk.map _ ?_;unfold pickOrder;simpa using aaY (w.params.setOrder a ep) es.size 0 es.toList #[] (by simp)
  |false=>
   rw [hw] at hc hl;exact hQ _ _ _ _ _ s.drawn .rfl (aoI (ep:=ep) hw ne (by simpa using hc) hl ht) ⟨⟨0,aR _ rfl,agS _ ht.1⟩,st⟩ (aU _) (by rw [cQ];exact jY _) two λb o' e=>aA _ e))
end
end
section
open PySem PyProof.Rows
noncomputable abbrev Qj (xs:Array Value) (c:Nat):Obj:={cls:=.type "list",dict:=none,data:=.seq xs c,slots:=#[]}
section
variable {prog:Program} {w:World} {A:Around} {I:Addr} {fp:List Addr} {ord:List Value} {St:Nat->Heap->Prop} {s:Shared} {R:Result->Shared->Prop}
theorem amM(W:Sw prog w I fp ord St)(hh:A.handled=none)(S:Addr)(hS:S∉fp)(hI:S≠I)(hz:ord.length<=sizeLine)(res:Value):
  ∀(k i:Nat) (h:Heap) (acc:Array Value) (c:Nat),ord.length - i=k->i<=ord.length->St i h->h.get? S=some (Qj acc c)->acc.toList=ord.take i->
   (∀h' acc c,(∀b o,b≠S->b≠I->h.get? b=some o->h'.get? b=some o)->h'.get? S=some (Qj acc c)->acc.toList=ord->R (.ok (.ret res)) {s with heap:=h'})->
   codeAny (model prog w) A (.builtin "list.extend.loop" ⟨[.ref S,.ref I,res],[]⟩) R {s with heap:=h}:=(by apply aj:aa (by
 intro k
 induction k with
 |zero=>
  intro i h acc c e1 e2 st g ea hR;have ei:i=ord.length:=by omega
  refine codeAny_builtin afl ?_;rw [il uf _];refine wpAny_bind (W.done A.in1 hh {s with heap:=h} _ _ (by rw [ei] at st;exact st) λh' kp=>?_);refine wpAny_pure (hR h' acc c (λb o _ n e=>kp b o n e) (kp S _ hI g) ?_);rw [ea,ei,lM]
 |succ k ih=>
  intro i h acc c e1 e2 st g ea hR;have li:i<ord.length:=by omega
  have sz:acc.size=i:=by rw [<-gb,ea,bO];omega
  refine codeAny_builtin afl ?_;rw [il uf _];refine wpAny_bind (W.item A.in1 i ord[i] {s with heap:=h} _ _ (ak li) st λh' st' kp=>?_);have g':=kp S _ hI g;have up:∀b o,b≠S->h'.get? b=some o->(h'.update S (zb (·.push ord[i]))).get? b=some o:=λb o n e=>(xP _ _ (cO n)).trans e;show wpAny _ A.in1 (updateSeq S (·.push ord[i]) >>= _) _ _ _;refine wpAny_bind (wpAny_updateSeq g' rfl (wpAny_pure ⟨plainId_quiet uf _,ih (i+1) _ (acc.push ord[i]) _ (by omega) li (W.frame _ _ _ st' λb hb o e=>up b o (λz=>hS (z▸hb)) e)
   (qK _ g' rfl) (by rw [Wy,ea,afz li]) λh2 a2 c2 kp2=>hR h2 a2 c2 λb o n1 n2 e=>kp2 b o n1 n2 (up b o n1 (kp b o n2 e))⟩) (by rw [sz];omega)
   (by show (acc.push ord[i]).size<=sizeLine+1;rw [Array.size_push,sz];omega))))
end
section
variable {prog:Program} {w:World} {A:Around} {E:Value->Shared->Prop} {s:Shared} {a:Addr}
theorem alP(hT:s.TypeIs (.ref a) "set"){Q:Bool->Shared->Prop}(h:Q false s):wpAny (model prog w) A (adl (.ref a)) Q E s:=(by apply aj:aa (by
 unfold adl;refine wpAny_bind (wpAny_specialOf hT PySem.F.slot_set_len.lookup ?_);generalize hid:("set.__len__":String)=id0
 wp_delta
 rw [show splitId id0=some ("set","__len__") from by subst hid;decide+kernel];subst hid;refine wpAny_bind (wpAny_isInstance (T:="set") (b:=true) hT (by rw [isSubtype_type];kernel_rfl) ?_);refine Td (by decide) (Wz (by decide+kernel) ?_);exact wpAny_bind (wpAny_typeOf hT (wpAny_pure h))))
theorem afU{R:Result->Shared->Prop}{es:Array (Int×Value)}{ep:Nat}{t:SetTable}(hh:A.handled=none)(hs:wB s.heap a es ep t)(ht:TOk t)(hl:t.led= !sS w)(hz:es.size<=sizeLine)(S:Addr)(hSa:S≠a)(res:Value)(g:s.heap.get? S=some (Qj #[] 0))(hR:∀ord h' d acc c,ord.Perm (es.toList.map (·.2))->(∀b o,b≠S->s.heap.get? b=some o->h'.get? b=some o)->h'.get? S=some (Qj acc c)->acc.toList=ord->R (.ok (.ret res)) {s with heap:=h',drawn:=d}):
  wpAny (model prog w) A.in1 (adm (.ref S) (.ref a) res)
   (λfin s'=>match fin with | .done f=>R (.ok f) s' | .again c'=>c'.quiet=true/\codeAny (model prog w) A c' R s') (λe s'=>R (.error e) s') s:=(by apply aj:aa (by
 have lS:S<s.heap.objs.size:=aZ g;obtain ⟨o,ho,hx,hd⟩:=hs.obj;have hT:s.TypeIs (.ref a) "set":=⟨o,ho,hx.1⟩;unfold adm;refine wpAny_bind (wpAny_typeOf hT ?_);have q1:afD (.ref S) (.ref a)=false:=by simp [afD,hSa]
 have q2:(iM "set"==iM "list")=false:=by decide
 have q3:(iM "set"==iM "tuple")=false:=by decide
 simp only [q1,q2,q3,afE,cD,if_false];refine wpAny_bind (ak3 hs ht hl hz λI fp ord St h' d p W st lI lI2 hfp kp=>?_);have nI:S≠I:=b8 (cM lS lI);have nfp:S∉fp:=λz=>by
  rcases hfp S z with q | q
  ·exact hSa q
  ·exact absurd lS (Nat.not_lt.mpr q)
 have zo:ord.length<=sizeLine:=by
  rw [p.length_eq];simpa using hz
 have g1:=kp S _ g;refine wpAny_bind (wpAny_holding (alP (s:={s with heap:=h',drawn:=d}) ⟨o,kp a o ho,hx.1⟩ ?_));refine Wz (by decide+kernel) (wpAny_bind (wpAny_rule (wpAny_bind ?_)));show wpAny _ _ (updateSeq S (·.push .none) >>= λ_=>updateSeq S (·.pop)) _ _ _;refine wpAny_bind (wpAny_updateSeq (s:={s with heap:=h',drawn:=d}) g1 rfl ?_);have g2:=qK (zb (·.push Ey)) g1 rfl;refine wpAny_updateSeq (hz:=by seq_fits) g2 rfl ?_;have g3:=qK (zb (·.pop)) g2 rfl;have up:∀b o,b≠S->h'.get? b=some o->((h'.update S (zb (·.push Ey))).update S (zb (·.pop))).get? b=some o:=λb o n e=>
  (xP _ _ (cO n)).trans ((xP _ _ (cO n)).trans e)
 refine wpAny_pure ⟨plainId_quiet uf _,amM (s:={s with drawn:=d}) W hh S nfp nI zo res ord.length 0 _ #[] _ (aiq _) (eX _) (W.frame _ _ _ st λb hb o e=>up b o (λz=>nfp (z▸hb)) e) g3 (by simp)
  λh2 a2 c2 kp2 g4 e4=>hR ord h2 d a2 c2 p (λb o n e=>?_) g4 e4⟩
 refine kp2 b o n (λz=>?_) (up b o n (kp b o e));exact absurd (aZ e) (Nat.not_lt.mpr (z▸lI))))
theorem aeK:∀(l:List Value),(∀v∈l,∃t,v= .int (Ys v) t)->IntsAre l (l.map Ys)
 |[],_=>.nil
 |v::l,h=>by
  obtain ⟨t,e⟩:=h v bz;rw [e];exact .cons _ t (aeK l λu hu=>h u (aV _ hu))
theorem adU{ns:List Int}(hh:A.handled=none)(x:QF prog w s.heap a (!sS w) ns){R:List Value->Shared->Prop}(h:∀vs ms h' d,IntsAre vs ms->ms.Perm ns->s.heap.objs.size<=h'.objs.size->(∀b o,s.heap.get? b=some o->h'.get? b=some o)->R vs {s with heap:=h',drawn:=d}):wpAny (model prog w) A (collect (.ref a)) R E s:=(by apply aj:aa (by
 obtain ⟨o,es,ep,t,ho,hx,hd,h1,h2,h3,h4,h5,h6⟩:=x;have la:a<s.heap.objs.size:=aZ ho;unfold collect;refine wpAny_bind (wpAny_runValue (codeAny_builtin entry_proto_collect' ?_));rw [il PySem.F.plain_proto_collect _];refine wpAny_bind (m:=newList []) (wpAny_newObj_type ?_);refine wpAny_pure ⟨plainId_quiet ag9 _,codeAny_builtin entry_list_iadd' ?_⟩;rw [il ag9 _];have hz:es.size<=sizeLine:=fits_of_scanBound h3;have key:=afU (A:=A) (s:={s with heap:=s.heap.push (Qj #[] 0)}) (prog:=prog) (w:=w) (a:=a) (es:=es) (ep:=ep) (t:=t)
  (R:=λ(q:Result) (s':Shared)=>∃ord h' d acc c,q= .ok (.ret (.ref s.heap.objs.size))/\s'={s with heap:=h',drawn:=d}/\ord.Perm (es.toList.map (·.2))/\
   (∀b o,s.heap.get? b=some o->h'.get? b=some o)/\h'.get? s.heap.objs.size=some (Qj acc c)/\acc.toList=ord)
  hh ⟨⟨o,aA _ ho,hx,hd⟩,h4⟩ h5 h6 hz s.heap.objs.size (j7 la) (.ref s.heap.objs.size) (aR _ rfl)
  (λord h' d acc c p kp g e=>⟨ord,h',d,acc,c,rfl,rfl,p,λb o q=>kp b o (b8 (aZ q)) (aA _ q),g,e⟩)
 have fin:∀ord h' d acc c,ord.Perm (es.toList.map (·.2))->(∀b o,s.heap.get? b=some o->h'.get? b=some o)->h'.get? s.heap.objs.size=some (Qj acc c)->acc.toList=ord->R acc.toList {s with heap:=h',drawn:=d}:=by
  intro ord h' d acc c p kp g e;rw [e];refine h ord (ord.map Ys) h' d (aeK ord λv hv=>?_) ?_ (Dv (aZ g)) kp
  ·obtain ⟨y,hy,rfl⟩:=cF.mp (p.mem_iff.mp hv);exact abe h1 hy
  ·refine (p.map Ys).trans ?_;rw [cG];exact h2
 refine wpAny_mono key (λf s' y=>?_) λe s' y=>?_
 ·cases f with
  |done f=>
   obtain ⟨ord,h',d,acc,c,e,rfl,p,kp,g,ea⟩:=y;cases e;exact wpAny_bind (wpAny_load g (wpAny_pure (fin ord h' d acc c p kp g ea)))
  |again c1=>
   refine ⟨y.1,codeAny_mono y.2 λq s2 z=>?_⟩;obtain ⟨ord,h',d,acc,c,rfl,rfl,p,kp,g,ea⟩:=z;exact wpAny_bind (wpAny_load g (wpAny_pure (fin ord h' d acc c p kp g ea)))
 ·obtain ⟨_,_,_,_,_,e',_⟩:=y;cases e'))
theorem afS{ns:List Int}(hh:A.handled=none)(x:QF prog w s.heap a (!sS w) ns)(hn:ns.length<=sizeLine){Q:Value->Shared->Prop}(h:∀(ns':List Int) (its:List Value) (p:Addr) (h':Heap) (d:Drawn) (c:Nat),IntsAre its ns'->ns'.Perm ns->ns'.Pairwise (· <=·)->s.heap.objs.size<=p->h'.get? p=some (seqObj "list" its.toArray c)->(∀b o,s.heap.get? b=some o->h'.get? b=some o)->
   Q (.ref p) {s with heap:=h',drawn:=d}):wpAny (model prog w) A (call (.builtin "sorted") [.ref a]) Q E s:=(by apply aj:aa (by
 refine PySem.Calls.call_function_entry kind_sorted plain_sorted entry_sorted (args_sorted1 _) ?_;unfold Builtin.«sorted»;refine wpAny_bind (m:=checkCount "sorted" 1 1 _) (wpAny_pure ?_);refine wpAny_bind (adU (A:=A.in1) hh x λvs ms h1 d hi hp le kp=>?_);have lv:vs.length<=sizeLine:=by
  rw [hi.length,hp.length_eq];exact hn
 refine wpAny_bind (wpAny_newList ?_ lv);have g:(h1.push (seqObj "list" vs.toArray 0)).get? h1.objs.size=some (seqObj "list" vs.toArray 0):=aR _ rfl;refine wpAny_bind (wpAny_holding (wpAny_call_entry slot_list_sort ⟨_,g,rfl⟩ entry_list_sort (list_sort_treeAny (s:={s with heap:=h1.push (seqObj "list" vs.toArray 0),drawn:=d}) g hi lv λout ns' i1 i2 i3=>⟨_,rfl,?_⟩) (args_list_sort _)));obtain ⟨c,gc⟩:=sortedHeap_at (out:=out) g;refine wpAny_pure ⟨_,rfl,h ns' out.toList _ _ d c i1 (i2.trans hp) i3 le (by simpa using gc) λb o e=>?_⟩;have lt:b<h1.objs.size:=aZ (kp b o e);rw [sortedHeap_old (b8 lt) (by rw [cQ];exact jD lt)];exact aA _ (kp b o e)))
end
end
section
open PySem
abbrev yN(h:Heap)(T:Addr)(a b c:Value):Prop:=h.get? T=some {cls:=.type "tuple",data:=.seq #[a,b,c]}
structure Ap3(z TI TO i1 i2 i3 l1 l2 l3:Addr):Prop where
 nd:[z,TI,TO,i1,i2,i3].Nodup
 n1:l1∉[z,TI,TO,i1,i2,i3]
 n2:l2∉[z,TI,TO,i1,i2,i3]
 n3:l3∉[z,TI,TO,i1,i2,i3]
structure Z3(h:Heap)(z TI TO i1 i2 i3 l1 l2 l3:Addr)(f:Value)(k:Nat):Prop where
 z:IsZip h z TI TO f
 ti:yN h TI (.ref i1) (.ref i2) (.ref i3)
 to:∃a b c,yN h TO a b c
 i1:h.IsListIter i1 l1 k
 i2:h.IsListIter i2 l2 k
 i3:h.IsListIter i3 l3 k
section
variable {prog:Program} {w:World} {A:Around} {E:Value->Shared->Prop} {s:Shared}
theorem WQ{T:Addr}{a b c x:Value}{k:Nat}{Q:Unit->Shared->Prop}(hT:yN s.heap T a b c)(h:∀h',h'.get? T=some {cls:=.type "tuple",data:=.seq ((#[a,b,c]:Array Value).setIfInBounds k x)}->jj T s.heap h'->Q () {s with heap:=h'}):
  wpAny (model prog w) A (updateSeq T (·.setIfInBounds k x)) Q E s:=by
 refine wpAny_updateSeq hT rfl (h _ ?_ (S9 ..));rw [qK _ hT rfl];simp [zb]
theorem aix{z TI TO i1 i2 i3 l1 l2 l3:Addr}{k:Nat}{xs ys us:Array Value}{x y u:Value}{Q:Value->Shared->Prop}(D:Ap3 z TI TO i1 i2 i3 l1 l2 l3)(Z:Z3 s.heap z TI TO i1 i2 i3 l1 l2 l3 .none k)(hl1:s.heap.IsList l1 xs)(hl2:s.heap.IsList l2 ys)(hl3:s.heap.IsList l3 us)(hx:xs[k]? =some x)(hy:ys[k]? =some y)(hu:us[k]? =some u)(hQ:∀h',Z3 h' z TI TO i1 i2 i3 l1 l2 l3 (rawInt s.heap.objs.size) (k+1)->yN h' s.heap.objs.size x y u->h'.objs.size=s.heap.objs.size+1->
   (∀c o,c∉[z,TI,TO,i1,i2,i3]->s.heap.get? c=some o->h'.get? c=some o)->Q (.ref s.heap.objs.size) {s with heap:=h'}):
  wpAny (model prog w) A (Builtin.«zip.__next__» ⟨[.ref z],[]⟩) (λfin s'=>∃v,fin= .done (.ret v)/\Q v s') E s:=(by apply aj:aa (by
 have nd:=D.nd;have m1:=D.n1;have m2:=D.n2;have m3:=D.n3;simp only [pW,bc,not_or,bU,not_false_eq_true,and_true,xO,true_and] at nd m1 m2 m3;obtain ⟨⟨a1,a2,a3,a4,a5⟩,⟨a6,a7,a8,a9⟩,⟨a10,a11,a12⟩,⟨a13,a14⟩,a15⟩:=nd;obtain ⟨b1,b2,b3,b4,b5,b6⟩:=m1;obtain ⟨c1,c2,c3,c4,c5,c6⟩:=m2;obtain ⟨d1,d2,d3,d4,d5,d6⟩:=m3;obtain ⟨hz,hTI,⟨va,vb,vc,hTO⟩,h1,h2,h3⟩:=Z;refine wpAny_bind (m:=field (.ref z) 2) (wpAny_field hz rfl (x:=.bool false) rfl ?_);refine wpAny_bind (m:=field (.ref z) 3) (wpAny_field hz rfl (x:=.ref TI) rfl ?_);refine wpAny_bind (wpAny_seqItems hTI rfl ?_);refine wpAny_bind (m:=lK (.ref z)) ?_;unfold lK;refine wpAny_bind (wpAny_field hz rfl (x:=.none) rfl (wpAny_pure ?_));simp only [if_true];refine wpAny_bind (wpAny_rule (wpAny_bind (wpAny_field hz rfl (x:=.ref TO) rfl ?_)));refine wpAny_bind (wpAny_setField_rec hz (by simp) λg1 q1 r1=>?_);replace q1:IsZip g1 z TI TO .ellipsis:=q1;refine wpAny_bind ?_;simp only [ZK,List.zipIdx_nil,aby,QW];refine wpAny_bind (wpAny_bind (wpAny_onRaise ?_));refine wpAny_bind (m:=uh (.ref i1)) (wpAny_nextOf_list_item (h1.extBut r1.extBut (cO a3)) (hl1.extBut r1.extBut b1) hx λg2 q2 r2=>wpAny_pure ?_);have t2:yN g2 TO va vb vc:=r2.extBut _ _ a10 (r1.extBut _ _ (cO a2) hTO);refine wpAny_bind (wpAny_seqItems t2 rfl (wpAny_bind (WQ t2 λg3 t3 r3=>?_)));replace t3:yN g3 TO x vb vc:=t3;refine wpAny_bind (wpAny_letGo (wpAny_pure ?_));refine wpAny_bind (wpAny_bind (wpAny_onRaise ?_));refine wpAny_bind (m:=uh (.ref i2)) (wpAny_nextOf_list_item (((h2.extBut r1.extBut (cO a4)).extBut r2.extBut (cO a13)).extBut r3.extBut (cO a11))
  (((hl2.extBut r1.extBut c1).extBut r2.extBut c4).extBut r3.extBut c3) hy λg4 q4 r4=>wpAny_pure ?_)
 have t4:yN g4 TO x vb vc:=r4.extBut _ _ a11 t3;refine wpAny_bind (wpAny_seqItems t4 rfl (wpAny_bind (WQ t4 λg5 t5 r5=>?_)));replace t5:yN g5 TO x y vc:=t5;refine wpAny_bind (wpAny_letGo (wpAny_pure ?_));refine wpAny_bind (wpAny_bind (wpAny_onRaise ?_));refine wpAny_bind (m:=uh (.ref i3)) (wpAny_nextOf_list_item (((((h3.extBut r1.extBut (cO a5)).extBut r2.extBut (cO a14)).extBut r3.extBut (cO a12)).extBut r4.extBut (cO a15)).extBut r5.extBut (cO a12))
  (((((hl3.extBut r1.extBut d1).extBut r2.extBut d4).extBut r3.extBut d3).extBut r4.extBut d5).extBut r5.extBut d3) hu λg6 q6 r6=>wpAny_pure ?_)
 have t6:yN g6 TO x y vc:=r6.extBut _ _ a12 t5;refine wpAny_bind (wpAny_seqItems t6 rfl (wpAny_bind (WQ t6 λg7 t7 r7=>?_)));replace t7:yN g7 TO x y u:=t7;refine wpAny_bind (wpAny_letGo (wpAny_pure (wpAny_pure ?_)));refine wpAny_bind (wpAny_seqItems t7 rfl (wpAny_bind (wpAny_newTuple ?_)));have sz:g7.objs.size=s.heap.objs.size:=by rw [r7.1,r6.1,r5.1,r4.1,r3.1,r2.1,r1.1]
 have zz:IsZip g7 z TI TO .ellipsis:=r7.extBut _ _ a2 (r6.extBut _ _ a5 (r5.extBut _ _ a2 (r4.extBut _ _ a4 (r3.extBut _ _ a2 (r2.extBut _ _ a3 q1)))));have kp:∀c o,c≠z->c≠TO->c≠i1->c≠i2->c≠i3->s.heap.get? c=some o->g7.get? c=some o:=λc o n1 n2 n3 n4 n5 e=>
  r7.extBut _ _ n2 (r6.extBut _ _ n5 (r5.extBut _ _ n2 (r4.extBut _ _ n4 (r3.extBut _ _ n2 (r2.extBut _ _ n3 (r1.extBut _ _ n1 e))))))
 have k1:g7.IsListIter i1 l1 (k+1):=((((q2.extBut r3.extBut (cO a10)).extBut r4.extBut a13).extBut r5.extBut (cO a10)).extBut r6.extBut a14).extBut r7.extBut (cO a10);have k2:g7.IsListIter i2 l2 (k+1):=((q4.extBut r5.extBut (cO a11)).extBut r6.extBut a15).extBut r7.extBut (cO a11);have k3:g7.IsListIter i3 l3 (k+1):=q6.extBut r7.extBut (cO a12);have lz:z<g7.objs.size:=aZ zz;refine wpAny_bind (m:=Tc (.ref z) (.ref g7.objs.size)) ?_;unfold Tc;have z8:IsZip (g7.push {cls:=.type "tuple",data:=.seq #[x,y,u]}) z TI TO .ellipsis:=aA _ zz;refine wpAny_bind (wpAny_setField_rec z8 (by simp) λg9 z9 r9=>?_);replace z9:IsZip g9 z TI TO (rawInt g7.objs.size):=z9;refine wpAny_setField_rec z9 (by simp) λg10 z10 r10=>?_;replace z10:IsZip g10 z TI TO (rawInt g7.objs.size):=z10;have up:∀c o,c≠z->g7.get? c=some o->g10.get? c=some o:=λc o n e=>r10.extBut _ _ n (r9.extBut _ _ n (aA _ e));have tt:yN g10 g7.objs.size x y u:=r10.extBut _ _ (j7 lz) (r9.extBut _ _ (j7 lz) (aR _ rfl));have s10:g10.objs.size=g7.objs.size+1:=by rw [r10.1,r9.1,cQ]
 rw [sz] at z10 tt s10;refine wpAny_pure ⟨_,rfl,?_⟩;show Q (.ref g7.objs.size) _;rw [sz];refine hQ g10 ⟨z10,up _ _ (cO a1) (kp _ _ (cO a1) a6 a7 a8 a9 hTI),⟨x,y,u,up _ _ (cO a2) t7⟩,k1.at λo e=>up _ o (cO a3) e,k2.at λo e=>up _ o (cO a4) e,k3.at λo e=>up _ o (cO a5) e⟩ tt s10 λc o n e=>?_;simp only [bc,not_or,bU,not_false_eq_true,and_true] at n;exact up c o n.1 (kp c o n.1 n.2.2.1 n.2.2.2.1 n.2.2.2.2.1 n.2.2.2.2.2 e)))
theorem akK{z TI TO i1 i2 i3 l1 l2 l3:Addr}{k:Nat}{xs ys us:Array Value}{Q:Fin->Shared->Prop}(hh:A.handled=none)(D:Ap3 z TI TO i1 i2 i3 l1 l2 l3)(Z:Z3 s.heap z TI TO i1 i2 i3 l1 l2 l3 .none k)(hl1:s.heap.IsList l1 xs)(hx:xs[k]? =none)(hE:∀h' e,(∀c o,c∉[z,TI,TO,i1,i2,i3]->s.heap.get? c=some o->h'.get? c=some o)->(∃o,h'.get? e=some o/\o.cls= .type "StopIteration")->E (.ref e) {s with heap:=h'}):
  wpAny (model prog w) A (Builtin.«zip.__next__» ⟨[.ref z],[]⟩) Q E s:=(by apply aj:aa (by
 have nd:=D.nd;have m1:=D.n1;simp only [pW,bc,not_or,bU,not_false_eq_true,and_true,xO,true_and] at nd m1;obtain ⟨⟨a1,a2,a3,a4,a5⟩,⟨a6,a7,a8,a9⟩,⟨a10,a11,a12⟩,⟨a13,a14⟩,a15⟩:=nd;obtain ⟨b1,b2,b3,b4,b5,b6⟩:=m1;obtain ⟨hz,hTI,⟨va,vb,vc,hTO⟩,h1,h2,h3⟩:=Z;refine wpAny_bind (m:=field (.ref z) 2) (wpAny_field hz rfl (x:=.bool false) rfl ?_);refine wpAny_bind (m:=field (.ref z) 3) (wpAny_field hz rfl (x:=.ref TI) rfl ?_);refine wpAny_bind (wpAny_seqItems hTI rfl ?_);refine wpAny_bind (m:=lK (.ref z)) ?_;unfold lK;refine wpAny_bind (wpAny_field hz rfl (x:=.none) rfl (wpAny_pure ?_));simp only [if_true];refine wpAny_bind (wpAny_rule (wpAny_bind (wpAny_field hz rfl (x:=.ref TO) rfl ?_)));refine wpAny_bind (wpAny_setField_rec hz (by simp) λg1 q1 r1=>?_);replace q1:IsZip g1 z TI TO .ellipsis:=q1;refine wpAny_bind ?_;simp only [ZK,List.zipIdx_nil,aby,QW];refine wpAny_bind (wpAny_bind (wpAny_onRaise ?_));refine wpAny_bind (m:=uh (.ref i1)) (wpAny_nextOf_list_end hh (h1.extBut r1.extBut (cO a3)) (hl1.extBut r1.extBut b1) hx λg2 e r2 he=>?_);obtain ⟨oe,ge,ce⟩:=he;have q2:IsZip g2 z TI TO .ellipsis:=r2 _ _ a3 q1;have ez:e≠z:=λv=>by subst v;rw [q2] at ge;cases ge;simp at ce
 refine wpAny_setField_rec q2 (by simp) λg3 _ r3=>hE g3 e (λc o n v=>?_) ⟨oe,r3.extBut _ _ ez ge,ce⟩;simp only [bc,not_or,bU,not_false_eq_true,and_true] at n;exact r3.extBut _ _ n.1 (r2 _ _ n.2.2.2.1 (r1.extBut _ _ n.1 v))))
theorem agk{z TI TO i1 i2 i3 l1 l2 l3:Addr}{k:Nat}{xs ys us:Array Value}{x y u:Value}{Q:Option Value->Shared->Prop}(D:Ap3 z TI TO i1 i2 i3 l1 l2 l3)(Z:Z3 s.heap z TI TO i1 i2 i3 l1 l2 l3 .none k)(hl1:s.heap.IsList l1 xs)(hl2:s.heap.IsList l2 ys)(hl3:s.heap.IsList l3 us)(hx:xs[k]? =some x)(hy:ys[k]? =some y)(hu:us[k]? =some u)(hQ:∀h',Z3 h' z TI TO i1 i2 i3 l1 l2 l3 (rawInt s.heap.objs.size) (k+1)->yN h' s.heap.objs.size x y u->h'.objs.size=s.heap.objs.size+1->
   (∀c o,c∉[z,TI,TO,i1,i2,i3]->s.heap.get? c=some o->h'.get? c=some o)->Q (some (.ref s.heap.objs.size)) {s with heap:=h'}):
  wpAny (model prog w) A (pyNext (.ref z)) Q E s:=by
 have hT:s.TypeIs (.ref z) "zip":=⟨_,Z.z,rfl⟩;unfold pyNext;exact wpAny_bind (wpAny_attempt (wpAny_callSpecial?_slot (name:=bA "__next__") hT yQ (wpAny_call_entry yQ hT aip
  (aix D Z hl1 hl2 hl3 hx hy hu λh' p1 p2 p3 p4=>wpAny_pure (hQ h' p1 p2 p3 p4)) (aha _))))
theorem ajb{z TI TO i1 i2 i3 l1 l2 l3:Addr}{k:Nat}{xs:Array Value}{Q:Option Value->Shared->Prop}(hh:A.handled=none)(D:Ap3 z TI TO i1 i2 i3 l1 l2 l3)(Z:Z3 s.heap z TI TO i1 i2 i3 l1 l2 l3 .none k)(hl1:s.heap.IsList l1 xs)(hx:xs[k]? =none)(hQ:∀h',(∀c o,c∉[z,TI,TO,i1,i2,i3]->s.heap.get? c=some o->h'.get? c=some o)->Q none {s with heap:=h'}):wpAny (model prog w) A (pyNext (.ref z)) Q E s:=(by apply aj:aa (by
 have hT:s.TypeIs (.ref z) "zip":=⟨_,Z.z,rfl⟩;unfold pyNext;refine wpAny_bind (wpAny_attempt (wpAny_callSpecial?_slot (name:=bA "__next__") hT yQ (wpAny_call_entry yQ hT aip
  (akK (us:=#[]) (ys:=#[]) hh D Z hl1 hx λh' e kp he=>?_) (aha _))))
 obtain ⟨o,ho,hc⟩:=he;refine wpAny_bind (wpAny_isInstance (T:="StopIteration") (b:=true) ⟨o,ho,hc⟩ isSubtype_stop ?_);exact wpAny_pure (hQ _ kp)))
noncomputable abbrev wy (l:Addr):Obj:={cls:=.type "list_iterator",data:=.fields #[.ref l,.int 0 0]}
theorem ZP(a b c:Value):checkTypeCall "zip" ⟨[a,b,c],[]⟩=pure ():=by kernel_rfl
theorem acy(a b c:Value):checkBuiltinCall "zip.__new__" ⟨[.type "zip",a,b,c],[]⟩=pure ():=by kernel_rfl
theorem agV(a b c d:Value):argsOk "object.__init__" ⟨[a,b,c,d],[]⟩:=by
 unfold argsOk;rw [signature?_of (id:="object.__init__") (n:="__tini__".toList) (o:="tcejbo".toList) (by kernel_rfl) PySem.F.owner_object]
 kernel_rfl
noncomputable abbrev zp1 (h:Heap) (l1 l2 l3:Addr):Heap:=((h.push (wy l1)).push (wy l2)).push (wy l3)
noncomputable abbrev zp2 (h:Heap) (l1 l2 l3:Addr):Heap:=(zp1 h l1 l2 l3).push {cls:=.type "tuple",data:=.seq #[.ref h.objs.size,.ref (h.push (wy l1)).objs.size,.ref ((h.push (wy l1)).push (wy l2)).objs.size]}
noncomputable abbrev zp3 (h:Heap) (l1 l2 l3:Addr):Heap:=(zp2 h l1 l2 l3).push {cls:=.type "tuple",data:=.seq #[.none,.none,.none]}
noncomputable abbrev zp4 (h:Heap) (l1 l2 l3:Addr):Heap:=(zp3 h l1 l2 l3).push {cls:=.type "zip",data:=.fields #[.none,.bool false,.bool false,.ref (zp1 h l1 l2 l3).objs.size,.ref (zp2 h l1 l2 l3).objs.size]}
theorem agm(l1 l2 l3:Addr)(xs ys us:Array Value):
  Meets (Builtin.«zip.__new__» ⟨[.type "zip",.ref l1,.ref l2,.ref l3],[]⟩) (λ_ R s=>s.heap.IsList l1 xs/\s.heap.IsList l2 ys/\s.heap.IsList l3 us/\
   R (.ok (.ret (.ref (zp3 s.heap l1 l2 l3).objs.size))) {s with heap:=zp4 s.heap l1 l2 l3}):=
 .of_wp λprog w A R s h=>by
  obtain ⟨p1,p2,p3,p4,p5⟩:=s;obtain ⟨h1,h2,h3,h⟩:=h;have q:=sub_zip;have L1:Jl (aaL ⟨p1,p2,p3,p4,p5⟩) l1 xs:=h1;have L2:Jl (aaL ⟨p1.push (wy l1),p2,p3,p4,p5⟩) l2 ys:=Jl.push h2 _;have L3:Jl (aaL ⟨(p1.push (wy l1)).push (wy l2),p2,p3,p4,p5⟩) l3 us:=(Jl.push h3 _).push _
  wp_walk using wpAny_pyIter_list L1,wpAny_pyIter_list L2,wpAny_pyIter_list L3
  exact ⟨_,rfl,h⟩
theorem ajV{l1 l2 l3:Addr}{xs ys us:Array Value}{Q:Value->Shared->Prop}(h1:s.heap.IsList l1 xs)(h2:s.heap.IsList l2 ys)(h3:s.heap.IsList l3 us)(h:∀h',Z3 h' (s.heap.objs.size+5) (s.heap.objs.size+3) (s.heap.objs.size+4) s.heap.objs.size (s.heap.objs.size+1) (s.heap.objs.size+2) l1 l2 l3 .none 0->
   (∀c o,s.heap.get? c=some o->h'.get? c=some o)->Q (.ref (s.heap.objs.size+5)) {s with heap:=h'}):
  wpAny (model prog w) A (call (.type "zip") [.ref l1,.ref l2,.ref l3]) Q E s:=(by apply aj:aa (by
 refine callType_new PySem.F.called_zip (by decide) (ZP _ _ _) (acy _ _ _) (λobj=>agV obj _ _ _) PySem.F.entry_zip_new (agm l1 l2 l3 xs ys us) ⟨h1,h2,h3,?_⟩;have z1:(s.heap.push (wy l1)).objs.size=s.heap.objs.size+1:=cQ ..;have z2:((s.heap.push (wy l1)).push (wy l2)).objs.size=s.heap.objs.size+2:=by rw [cQ,z1]
 have z3:(zp1 s.heap l1 l2 l3).objs.size=s.heap.objs.size+3:=by rw [cQ,z2]
 have z4:(zp2 s.heap l1 l2 l3).objs.size=s.heap.objs.size+4:=by rw [cQ,z3]
 have z5:(zp3 s.heap l1 l2 l3).objs.size=s.heap.objs.size+5:=by rw [cQ,z4]
 have g6:(zp4 s.heap l1 l2 l3).get? (zp3 s.heap l1 l2 l3).objs.size=some _:=aR _ rfl;have g5:(zp4 s.heap l1 l2 l3).get? (zp2 s.heap l1 l2 l3).objs.size=some _:=aA _ (aR _ rfl);have g4:(zp4 s.heap l1 l2 l3).get? (zp1 s.heap l1 l2 l3).objs.size=some _:=aA _ (aA _ (aR _ rfl));have up:∀c o,(zp1 s.heap l1 l2 l3).get? c=some o->(zp4 s.heap l1 l2 l3).get? c=some o:=λc o e=>aA _ (aA _ (aA _ e));have g3:(zp4 s.heap l1 l2 l3).get? ((s.heap.push (wy l1)).push (wy l2)).objs.size=some (wy l3):=up _ _ (aR _ rfl);have g2:(zp4 s.heap l1 l2 l3).get? (s.heap.push (wy l1)).objs.size=some (wy l2):=up _ _ (aA _ (aR _ rfl));have g1:(zp4 s.heap l1 l2 l3).get? s.heap.objs.size=some (wy l1):=up _ _ (aA _ (aA _ (aR _ rfl)));show _/\_;rw [z3,z4,z5] at g6;rw [z4] at g5;rw [z1,z2,z3] at g4;rw [z2] at g3;rw [z1] at g2;rw [z5];exact ⟨⟨_,g6,rfl⟩,h _ ⟨g6,g4,⟨_,_,_,g5⟩,⟨_,g1,rfl,rfl⟩,⟨_,g2,rfl,rfl⟩,⟨_,g3,rfl,rfl⟩⟩ λc o e=>up c o (aA _ (aA _ (aA _ e)))⟩))
end
theorem Ia{n:Nat}(h:n<10):n.digitChar.toNat=48+n:=by
 have:n=0\/n=1\/n=2\/n=3\/n=4\/n=5\/n=6\/n=7\/n=8\/n=9:=by omega
 rcases this with h | h | h | h | h | h | h | h | h | h<;>subst h<;>rfl
theorem Vc:∀k:Nat,jZ k 0=bx k 48
 |0=>rfl
 |k+1=>by
  unfold jZ;rw [Nat.zero_div,Vc k];exact List.replicate_succ'.symm
theorem O1:∀(k n:Nat),1<=k->n<10^k->(j6 10 n).length<=k/\jZ k n=bx (k - (j6 10 n).length) 48++(j6 10 n).map Vx
 |0,n,h,_=>absurd h (by omega)
 |k+1,n,_,h=>by
  unfold jZ;by_cases c:n<10
  ·rw [ahd c,Nat.div_eq_of_lt c,Nat.mod_eq_of_lt c,Vc];refine ⟨by simp,?_⟩;simp [Ia c]
  ·have hk:1<=k:=by
    rcases Vt k with z | z
    ·subst z;simp at h;omega
    ·exact z
   have hd:n/10<10^k:=by
    rw [Nat.pow_succ] at h;exact Nat.div_lt_of_lt_mul (by rw [air];exact h)
   obtain ⟨i1,i2⟩:=O1 k (n/10) hk hd;rw [ahe (by decide) (by omega),i2];refine ⟨by simpa using i1,?_⟩;rw [cT,aJ,mZ];simp only [aH,bF,bu,jE,mX,akh];rw [Ia (Vr _ (by decide))]
theorem akL{n k:Nat}(hk:1<=k)(hn:n<10^k):Txt.zfill (bA (toString ((n:Nat):Int))) (k:Int)=⟨(jZ k n).toArray⟩:=(by apply aj:aa (by
 obtain ⟨h1,h2⟩:=O1 k n hk hn;have e:bA (toString ((n:Nat):Int))=⟨((j6 10 n).map Vx).toArray⟩:=PyProof.Rows.text_ofNat n;rw [e,h2];have hl:(⟨((j6 10 n).map Vx).toArray⟩:Str).length=(j6 10 n).length:=by simp [Str.length]
 unfold Txt.zfill;rw [hl];by_cases c:((k:Nat):Int)<=(j6 10 n).length
 ·rw [if_pos c];have:k - (j6 10 n).length=0:=by omega
  rw [this];rfl
 ·rw [if_neg c];unfold zfilled;have hne:j6 10 n≠[]:=by
   intro z;have:=PyProof.Rows.tDigits_len_ge 10 n;rw [z] at this;cases this
  obtain ⟨c0,cs,hc⟩:=List.exists_cons_of_ne_nil hne;have hd:∀c∈j6 10 n,48<=c.toNat:=by
   intro c hc;exact ajR n c hc
  have h0:(⟨((j6 10 n).map Vx).toArray⟩:Str).cps[0]? =some c0.toNat:=by simp [hc]
  rw [h0];have hc0:48<=c0.toNat:=hd c0 (by rw [hc];exact bz);split
  ·rename_i z;injection z with z;omega
  ·rename_i z;injection z with z;omega
  ·unfold Builtin.Str.padded;simp only [gA];congr 1;simp))
where
 ajR:∀(n:Nat) (c:Char),c∈j6 10 n->48<=c.toNat:=λn=>by
  induction n using Nat.strongRecOn with
  |_ n ih=>
   intro c hc
   by_cases h:n<10
   ·rw [ahd h,fJ] at hc
    rw [hc,Ia h]
    omega
   ·rw [ahe (by decide) (by omega)] at hc
    rcases d8.mp hc with q | q
    ·exact ih (n/10) (by omega) c q
    ·rw [fJ.mp q,Ia (Vr _ (by decide))]
     omega
end
section
open Vbmiam
theorem aeT{l r:List Nat}{i:Nat}(h:i<l.length):(l++r).getD i 0=l.getD i 0:=by
 rw [cC,cC,eG h]
theorem ajy{b p rest l:List Nat}{right:Bool}(h:headOf b= .whole p right rest):headOf (b++l)= .whole p right (rest++l):=(by apply aj:aa (by
 unfold headOf at h⊢;dsimp only at h⊢;by_cases c1:(b.take 6).all digit=false
 ·rw [if_pos c1] at h;cases h
 rw [if_neg c1] at h;by_cases c2:b.length<=6
 ·rw [if_pos c2] at h;split at h<;>cases h
 rw [if_neg c2] at h;have e6:(b++l).take 6=b.take 6:=Al (by omega);have eg:(b++l).getD 6 0=b.getD 6 0:=aeT (by omega);rw [e6,if_neg c1,if_neg (by simp;omega),eg];generalize value (b.take 6)=n at h⊢;by_cases c3:n<1\/LENGTH<n\/b.getD 6 0≠32
 ·rw [if_pos c3] at h;cases h
 rw [if_neg c3] at h⊢;by_cases c4:(b.drop (7+n)).isEmpty=true
 ·rw [if_pos c4] at h;cases h
 rw [if_neg c4] at h;have hl:7+n<b.length:=by
  rw [zc,akI] at c4;omega
 have ed:(b++l).drop (7+n)=b.drop (7+n)++l:=iZ (by omega);have ep:((b++l).drop 7).take n=(b.drop 7).take n:=by
  rw [iZ (by omega),Al (by rw [cA];omega)]
 rw [ed,ep];have ht:(b.drop (7+n)).length=b.length - (7+n):=cA;generalize b.drop (7+n)=t at h c4 ht⊢;generalize (b.drop 7).take n=q at h⊢;rw [if_neg (by cases t with | nil=>exact absurd rfl c4 | cons x t=>intro z;cases z)];by_cases c5:t.head? ≠some 35
 ·rw [if_pos c5] at h;cases h
 rw [if_neg c5] at h;have eh:(t++l).head? =t.head? :=by cases t with | nil=>exact absurd rfl c4 | cons x t=>rfl
 rw [eh,if_neg c5];by_cases c6:((t.drop 1).take 5).all digit=false
 ·rw [if_pos c6] at h;cases h
 rw [if_neg c6] at h;by_cases c7:t.length<7
 ·rw [if_pos c7] at h;cases h
 rw [if_neg c7] at h;have e5:((t++l).drop 1).take 5=(t.drop 1).take 5:=by
  rw [iZ (by omega),Al (by rw [cA];omega)]
 have e7:(t++l).getD 6 0=t.getD 6 0:=aeT (by omega);rw [e5,if_neg c6,if_neg (by simp;omega),e7];by_cases c8:t.getD 6 0≠10
 ·rw [if_pos c8] at h;cases h
 rw [if_neg c8] at h⊢;injection h with h1 h2 h3
 rw [iZ (by omega),<-h1,<-h2,<-h3]))
theorem WK{b p rest:List Nat}{right:Bool}(h:headOf b= .whole p right rest):rest.length<b.length:=by
 unfold headOf at h;dsimp only at h
 repeat' split at h
 all_goals first
  |(cases h;done)
  |skip
 injection h with h1 h2 h3
 rw [<-h3];simp only [cA] at *;omega
noncomputable def QC (s:State) (l:List Nat):State:={s with journal:=s.journal++l,pending:=s.pending++l}
theorem yt:∀(k:Nat) (s:State),(settled k s).journal=s.journal
 |0,s=>rfl
 |k+1,s=>by
  unfold settled;split
  ·rfl
  ·rfl
  ·rw [yt k]
theorem Rf:∀(k m:Nat) (s:State),s.pending.length<k->s.pending.length<m->settled k s=settled m s
 |0,m,s,h1,h2=>by omega
 |k+1,0,s,h1,h2=>by omega
 |k+1,m+1,s,h1,h2=>by
  unfold settled;split
  ·rfl
  ·rfl
  ·rename_i p right rest hw;have:=WK hw;exact Rf k m _ (by show rest.length<k;omega) (by show rest.length<m;omega)
theorem U7(l:List Nat):∀(k:Nat) (s:State) (m:Nat),s.pending.length<k->s.pending.length+l.length<m->(settled k s).broken=false->
  settled m (QC s l)=settled ((settled k s).pending.length+l.length+1) (QC (settled k s) l)
 |0,s,m,h1,h2,h3=>by omega
 |k+1,s,0,h1,h2,h3=>by omega
 |k+1,s,m+1,h1,h2,h3=>by
  cases hh:headOf s.pending with
  |part=>
   have e:settled (k+1) s=s:=by unfold settled;rw [hh]
   rw [e];exact Rf _ _ _ (by simp [QC];omega) (by simp [QC])
  |broken=>
   have e:settled (k+1) s={s with broken:=true}:=by unfold settled;rw [hh]
   rw [e] at h3;cases h3
  |whole p right rest=>
   have hl:=WK hh;have e:settled (k+1) s=settled k {s with pending:=rest,ends:=s.ends++[s.journal.length - rest.length],books:=entered s.books p right}:=by
    conv=>lhs;unfold settled
    rw [hh]
   have e2:settled (m+1) (QC s l)=settled m (QC {s with pending:=rest,ends:=s.ends++[s.journal.length - rest.length],books:=entered s.books p right} l):=by
    conv=>lhs;unfold settled
    have:headOf (QC s l).pending= .whole p right (rest++l):=ajy hh;rw [this];have en:(QC s l).journal.length - (rest++l).length=s.journal.length - rest.length:=by simp [QC,akh]
    dsimp only;rw [en];rfl
   rw [e,e2];rw [e] at h3;exact U7 l k _ m (by show rest.length<k;omega) (by show rest.length+l.length<m;omega) h3
theorem Xk(l:List Nat):(replay l).journal=l:=by
 unfold replay fed;rw [if_neg (by decide)];rw [yt];rfl
theorem agI{s:State}(l:List Nat)(h:replay s.journal=s)(hb:s.broken=false):replay (s.journal++l)=fed s l:=(by apply aj:aa (by
 have e0:replay s.journal=settled (s.journal.length+1) (QC jz s.journal):=by
  unfold replay fed;rw [if_neg (by decide)];show settled (0+s.journal.length+1) _=_;rw [mX];rfl
 have e1:replay (s.journal++l)=settled ((s.journal++l).length+1) (QC (QC jz s.journal) l):=by
  unfold replay fed;rw [if_neg (by decide)];show settled (0+(s.journal++l).length+1) _=_;rw [mX];rfl
 rw [e1,U7 l (s.journal.length+1) (QC jz s.journal) _ (by simp [QC,jz]) (by simp [QC,jz]) (by rw [<-e0,h];exact hb),<-e0,h];unfold fed;rw [if_neg (by rw [hb];decide)];rfl))
theorem K8{s:State}(l:List Nat)(hb:s.broken=false):(fed s l).journal=s.journal++l:=by
 unfold fed;rw [if_neg (by rw [hb];decide),yt]
theorem ajP{s:State}(l:List Nat)(h:replay s.journal=s)(hb:s.broken=false):replay (fed s l).journal=fed s l:=by
 rw [K8 l hb];exact agI l h hb
theorem adH:replay jz.journal=jz:=by decide
end
section
open PySem PySem.Spec PyProof.Rows
def GV(mg:Str->Option Value)(x:Str)(v:V):Prop:=∃u,mg x=some u/\RelV v u
theorem bH{X:Cx}{x:Str}{v:V}{pos:Pos}(h:GV X.mg x v)(hg:Gl X x:=by rfl)(hd:(x==("__debug__":Str))=false:=by decide):PE X (.Name x pos) (tC v):=by
 obtain ⟨u,h1,h2⟩:=h;exact am5 hg h1 h2 hd
def KT(K:az)(a:Addr)(xs:List V):Prop:=
 ∃(o:Obj) (its:Array Value) (n:Nat),K.lookup a=some o/\o.cls= .type "tuple"/\o.dict=none/\o.data= .seq its n/\its.size<=sizeLine/\Vals xs its.toList
theorem KT.sq{K:az}{H:Hp}{a:Addr}{xs:List V}(h:KT K a xs):Ol K H a xs:=let ⟨o,its,n,h1,h2,_,h4⟩:=h;.inr ⟨o,its,n,h1,h2,h4⟩
theorem KT.ty{K:az}{a:Addr}{xs:List V}(h:KT K a xs):∃o,K.lookup a=some o/\o.cls= .type "tuple"/\o.dict=none:=let ⟨o,its,n,h1,h2,h3,h4⟩:=h;⟨o,h1,h2,h3⟩
def KD(P:Program)(w:World)(K:az)(a:Addr)(kvs:List (Key×V)):Prop:=
 ∃(o:Obj) (es:Array DictEntry) (ep:Nat) (vs:List (Key×Value)),K.lookup a=some o/\o.ExactDict/\o.data= .dict es ep/\KeysOf (fY P w) es/\Pairs (fY P w) es.toList vs/\(vs.map (·.1)).Nodup/\KV kvs vs/\(a==sysModules)=false
theorem KD.dictOf{X:Cx}{pins:List (Addr×Obj)}{σ:St}{H:Hp}{s:Shared}{a:Addr}{kvs:List (Key×V)}(I:Inv X pins σ H s)(h:KD X.prog X.w X.K a kvs):
  (a==sysModules)=false/\∃vs,KV kvs vs/\s.heap.DictOf (fY X.prog X.w) a vs:=by
 obtain ⟨o,es,ep,vs,h1,h2,h3,h4,h5,h6,h7,h8⟩:=h;exact ⟨h8,vs,h7,o,es,ep,I.kIn a o h1,h2,h3,h4,h5,h6⟩
section
variable {X:Cx} {o i e f:Expr} {pos apos cpos:Pos} {td ty tx:TE}
def aqz(X:Cx)(td ty:TE):TE:=λσ H Q=>td σ H λx H1=>ty σ H1 λy H2=>∃a kvs k v,x= .ref a/\KD X.prog X.w X.K a kvs/\y=kV k/\m7 kvs k=some v/\Q v H2
def avQ(X:Cx)(ty td:TE):TE:=λσ H Q=>ty σ H λy H1=>td σ H1 λx H2=>∃a kvs k,x= .ref a/\KD X.prog X.w X.K a kvs/\y=kV k/\Q (.bl (m7 kvs k).isSome) H2
def amL(X:Cx)(ty td:TE):TE:=λσ H Q=>ty σ H λy H1=>td σ H1 λx H2=>∃a kvs k,x= .ref a/\KD X.prog X.w X.K a kvs/\y=kV k/\Q (.bl (!(m7 kvs k).isSome)) H2
def aoA(X:Cx)(td ty tx:TE):TE:=λσ H Q=>td σ H λx H1=>∃a kvs,x= .ref a/\KD X.prog X.w X.K a kvs/\ty σ H1 λy H2=>tx σ H2 λz H3=>∃k,y=kV k/\Q ((m7 kvs k).getD z) H3
theorem ahK(ho:PE X o td)(hi:PE X i ty)(hs:arT i):PE X (.Subscript o i pos) (aqz X td ty):=(by apply aj:aa (by
 intro pins s σ H Q I h;refine amO PySem.F.slot_dict_getitem.lookup hs (jL (ho pins s σ H _ I h) λu s1 ⟨x,H1,I1,rx,q1⟩=>jL (hi pins s1 σ H1 _ I1 q1) λiv s2 ⟨y,H2,I2,ry,a,kvs,k,v,ex,kd,ey,l,q2⟩=>?_);subst ex ey;obtain rfl:u=dX a:=rx;obtain ⟨hd,vs,rel,dd⟩:=kd.dictOf I2;obtain ⟨w',hw,rw'⟩:=Mh.some_of (v:=v) (o:=valueAt vs k) (by rw [<-l];exact rel.val k);exact ⟨dd.typeIs,wpAny_getItem_of (RC ry) dd.mapOf hw ⟨v,H2,I2.tok _,rw',q2⟩⟩))
theorem ai2(hi:PE X i ty)(ho:PE X o td):PC X .NotIn i o (amL X ty td):=(by apply aj:aa (by
 intro pins s σ H Q I h;refine jL (hi pins s σ H _ I h) λiv s1 ⟨y,H1,I1,ry,q1⟩=>jL (ho pins s1 σ H1 _ I1 q1) λu s2 ⟨x,H2,I2,rx,a,kvs,k,ex,kd,ey,q2⟩=>?_;subst ex ey;obtain rfl:u=dX a:=rx;obtain ⟨hd,vs,rel,dd⟩:=kd.dictOf I2;refine wpAny_notIn_of (RC ry) hd dd.mapOf ?_;rw [<-(rel.val k).Nk];exact ⟨.bl _,H2,I2.tok _,rfl,q2⟩))
theorem alf(ho:PE X o td)(he:PE X e ty)(hf:PE X f tx)(m:M2 X o "get" apos e f cpos):PE X (.Call (.Attribute o "get" apos) [e,f] [] cpos) (aoA X td ty tx):=(by apply aj:aa (by
 intro pins s σ H Q I h;refine wpAny_Call_method m.base m.few m.line JS jc Pr (jL (ho pins s σ H _ I h) λu s1 ⟨x,H1,I1,rx,a,kvs,ex,kd,q1⟩=>?_);subst ex;obtain rfl:u=dX a:=rx;obtain ⟨hd,vs,rel,dd⟩:=kd.dictOf I1;refine ⟨dd.typeIs,dd.mapOf.noDict,?_⟩;rw [m.trees];refine pR rfl (rG (jl (jL (he pins s1 σ H1 _ I1 q1) λiv s2 ⟨y,H2,I2,ry,q2⟩=>
  jl (jL (hf pins s2 σ H2 _ I2 q2) λfv s3 ⟨z,H3,I3,rz,k,ey,q3⟩=>m5 ?_))))
 subst ey;obtain ⟨hd,vs,rel,dd⟩:=kd.dictOf I3;refine call_meetsIn jc dd.typeIs pP (JT _ _ _) (meets_dict_get_default (fY X.prog X.w) a (RC ry) hd fv) ⟨_,dd.mapOf,?_⟩;exact ⟨_,H3,I3.tok _,(rel.val k).getD rz,q3⟩))
def anW(P:Program)(w:World)(K:az)(mg:Str->Option Value)(base:Heap)(k:Nat)(f:Addr)(sp:Sp):Prop:=
 lW K (.ref f)=true/\∃fd ps,fU P w K mg base mU k f fd ps sp/\Binds K fd ps []
def aoE(X:Cx)(k i:Nat)(t:TA):TE:=λσ H Q=>∃f sp,σ[i]? =some (some (.ref f))/\anW X.prog X.w X.K X.mg X.base k f sp/\t σ H λvs H1=>sp vs H1 Q E0
theorem XF{k n:Nat}{x:Str}{p:Pos}{es:List Expr}{t:TA}(hr:wg k X.A)(hN:X.N[n]? =some x)(hv:Vis X.env.scope x)(ha:PA X (e::es) t)(hd:(x==("__debug__":Str))=false:=by decide)(hcd:(x==("__classdict__":Str))=false:=by decide)(he:starEach (e::es) X.env=(false,eval e X.env)::starEach es X.env:=by rfl)(hpl:(backTo pos (starEach es X.env)).any (·.1)=false:=by rfl):
  PE X (.Call (.Name x p) (e::es) [] pos) (aoE X k n t):=(by apply aj:aa (by
 intro pins s σ H Q I h;obtain ⟨f,sp,hσ,⟨kp,fd,ps,F,hb⟩,h⟩:=h;refine wpAny_Call_Name_kw (jL (alc (i:=n) (x:=x) (pos:=p) hN hv hd hcd pins s σ H (λv H1=>v= .ref f/\H1=H) I (amI hσ ⟨rfl,rfl⟩)) λu s0 ⟨v,H0,I0,r0,ev,eH⟩=>?_);subst ev eH;obtain rfl:u=dX f:=r0;refine Ez (h₀:=X.base) I0.ok.mod.kin kp (jL (ha pos pins s0 σ H0 _ I0 h) λus s1 ⟨vs,H1,I1,r,q⟩=>⟨I1.kIn,?_⟩) he hpl;exact ab2 (Wg:=[]) (ds:=[]) F hr hb .nil dz I1 r (by rw [iw];exact q)))
theorem aeg:Pn X (binaryOp .FloorDiv) (rI (λ_ j=>0<j/\j.natAbs.log2<9000) λi j=>.int (i/j)):=opI λi j _ _ _ _ _ hc q=>by
 refine floordiv_int (by omega) ?_ (.inl (PyProof.noPylong_of_log2 hc.2));rw [Int.fdiv_eq_ediv_of_nonneg _ (by omega)];exact q
end
theorem WD{M:Model}{A:Around}{E:Value->Shared->Prop}{s:Shared}{β:Type}(f:Nat->β->Sem (ForInStep β))(I:Nat->β->Shared->Prop)(Q:β->Shared->Prop){n:Nat}{b:β}(turn:∀i b s,i<n->I i b s->wpAny M A (f i b) (λr s'=>match r with | .yield b'=>I (i+1) b' s' | .done b'=>Q b' s') E s)(fin:∀b s,I n b s->Q b s)(h:I 0 b s):wpAny M A (forIn [:n] b f) Q E s:=(by apply aj:aa (by
 rw [Std.Legacy.Range.forIn_eq_forIn_range'];simp only [Std.Legacy.Range.size,aiq,Nat.add_sub_cancel,Nat.div_one];refine wpAny_forIn_list _ (λrest b s'=>∃i,rest=Ji i (n - i)/\i<=n/\I i b s') _ ?_ ?_ _ _ ⟨0,by simp,eX _,h⟩
 ·rintro x rest b s' ⟨i,hr,hi,hI⟩;have hlt:i<n:=by
   rcases Oc i n with h | h
   ·exact h
   ·rw [Nat.sub_eq_zero_of_le h] at hr;simp at hr
  obtain ⟨rfl,hrest⟩:x=i/\rest=Ji (i+1) (n - (i+1)):=by
   have e:n - i=(n - (i+1))+1:=by omega
   rw [e,List.range'_succ] at hr;injection hr with h1 h2
   exact ⟨h1,h2⟩
  refine wpAny_mono (turn x b s' hlt hI) (λr s2 q=>?_) λ_ _ z=>z;cases r with
  |yield b'=>exact ⟨x+1,hrest,hlt,q⟩
  |done b'=>exact q
 ·rintro b s' ⟨i,hr,hi,hI⟩;have e:i=n:=by
   rcases Oc i n with h | h
   ·have e:n - i=(n - (i+1))+1:=by omega
    rw [e,List.range'_succ] at hr;cases hr
   ·omega
  subst e;exact fin b s' hI))
theorem ZQ(l:Addr)(items:Array Value)(n:Nat)(dd:Option Addr)(sl:Array (Option Value))(x:Value)(e:Value->Bool)(j:Nat)(hj:j<items.size)(hit:e items[j]=true)(hno:∀m (hm:m<items.size),m<j->e items[m]=false):
  Meets (Builtin.«tuple.index» ⟨[.ref l,x],[]⟩)
   (λA R s=>s.heap.get? l=some {cls:=.type "tuple",dict:=dd,data:=.seq items n,slots:=sl}/\(∀y,y∈items->gD A.in1 s y x (e y))/\R (.ok (.ret (.int j s.toks))) {s with toks:=s.toks+1}):=
 .of_wp λprog w A R s h=>by
  obtain ⟨hp,g,d,tk,os⟩:=s;obtain ⟨hl,he,h⟩:=h
  wp_walk using wpAny_loadPart' hl,WD _ (λi b s'=>b.1=none/\s'=⟨hp,g,d,tk,os⟩/\i<=j) _
  case turn=>
   rintro i b s' hi ⟨hb,rfl,hij⟩;have hi':i<items.size:=by rw [xM] at hi;exact hi
   rw [jO hi'];refine wpAny_bind (he _ (Array.getElem_mem hi') prog w _ _ ?_);by_cases q:i=j
   ·subst q;rw [hit]
    wp_walk
    exact ⟨_,rfl,h⟩
   ·rw [hno i hi' (by omega)]
    wp_walk
    exact ⟨rfl,rfl,by omega⟩
  case fin=>
   rintro ⟨b1,b2⟩ s' ⟨hb,rfl,hij⟩;rw [xM] at hij;omega
  case h=>exact ⟨rfl,rfl,eX _⟩
section
variable {X:Cx}
def amY(K:az):V->List V->Hp->VK->Prop:=λx xs H Q=>∃(a:Addr) (ys:List V) (y:V) (j:Nat) (z:V),x=V.ref a/\xs=[y]/\Ol K H a ys/\JC y=true/\ys.all JC=true/\ys[j]? =some z/\eqV z y=true/\
 (∀(m:Nat) (z':V),m<j->ys[m]? =some z'->eqV z' y=false)/\Q (.int (j:Nat)) H
theorem aje:MtR X "tuple.index" (amY X.K):=(by apply aj:aa (by
 intro pins s σ H x xs v us Q I rx rxs h;obtain ⟨a,ys,y,j,z,rfl,rfl,hs,fy,fys,hz,hzj,hno,q⟩:=h;cases rx;cases rxs with
 |cons ry rt=>
  rename_i uy ut;cases rt;obtain ⟨its,rv,⟨⟨cls,dd,data,sl⟩,ho,hc,n,hd⟩,hlen⟩:=I.tuple hs;simp only at hc hd;subst hc hd;obtain ⟨u,hu,ru⟩:=rv.get hz;obtain ⟨hjl,hje⟩:=aQ.mp hu;have hvl:=rv.length;have hj:j<its.toArray.size:=by simpa using hjl
  refine call_meets afw ⟨_,ho,rfl⟩ PySem.F.entry_tuple_index (PySem.F.args_tuple_index_2 _ _)
   (ZQ a its.toArray n dd sl uy (eqU y) j hj ?_ ?_) ⟨ho,λu' hu'=>Fy ry fy rv fys u' (by simpa using hu'),?_⟩
  ·have e1:its.toArray[j]=u:=by simpa using hje
   rw [e1,acP ru (ah7 fys hz)];exact hzj
  ·intro m hm hmj;have hml:m<its.length:=by simpa using hm
   have hmy:m<ys.length:=by omega
   have hy':ys[m]? =some ys[m]:=ak hmy;obtain ⟨u2,hu2,ru2⟩:=rv.get hy';obtain ⟨_,hme⟩:=aQ.mp hu2;have e1:its.toArray[m]=u2:=by simpa using hme
   rw [e1,acP ru2 (ah7 fys hy')];exact hno m _ hmj hy'
  ·exact ⟨.int (j:Nat),H,I.tok _,⟨_,rfl⟩,q⟩))
end
noncomputable def Ra {α:Type} (xs:List α) (lo hi:Option Int) (st:Int):List α:=
 (sliceRange (sliceBounds lo hi (some st) xs.length).1 (sliceBounds lo hi (some st) xs.length).2.1 (sliceBounds lo hi (some st) xs.length).2.2).filterMap (xs[·]?)
theorem Vals.pick{xs:List V}{its:List Value}(r:Vals xs its):∀is:List Nat,Vals (is.filterMap (xs[·]?)) (is.filterMap (its.toArray[·]?))
 |[]=>.nil
 |i::is=>by
  rw [fZ,fZ];cases h:xs[i]? with
  |none=>
   have h2:its.toArray[i]? =none:=by simpa using r.none_of h
   rw [h2];exact Vals.pick r is
  |some v=>
   obtain ⟨u,hu,ru⟩:=r.get h;have h2:its.toArray[i]? =some u:=by simpa using hu
   rw [h2];exact .cons ru (Vals.pick r is)
noncomputable def ev {α:Type}:List α->List α
 |x::_::r=>x::ev r
 |[x]=>[x]
 |[]=>[]
theorem ah8{α:Type}:∀(xs:List α) (a:Nat) (pre:List α),pre.length=a->((iR ((xs.length+1)/2)).map λk=>a+2*k).filterMap ((pre++xs)[·]?)=ev xs
 |x::y::r,a,pre,h=>by
  have ih:=ah8 r (a+2) (pre++[x,y]) (by simp [h]);have e1:((x::y::r).length+1)/2=(r.length+1)/2+1:=by
   show (r.length+1+1+1)/2=_;omega
  rw [e1,Od,bu,fZ];have e2:(pre++x::y::r)[a+2*0]? =some x:=by
   rw [Nat.mul_zero,Ws,fB (by omega),h,pQ];rfl
  rw [e2];show x::_=x::ev r;congr 1;rw [<-ih,cG];have e3:pre++[x,y]++r=pre++x::y::r:=by simp
  rw [e3];congr 1;apply gm;intro k _;show a+2*(k+1)=a+2+2*k;omega
 |[x],a,pre,h=>by
  have e2:(pre++[x])[a]? =some x:=by
   rw [fB (by omega),h,pQ];rfl
  have e1:(([x]:List α).length+1)/2=1:=by simp
  rw [e1];simp [ev,Cv,e2]
 |[],a,pre,h=>by simp [ev]
theorem Q9{α:Type}(xs:List α)(k:Nat)(hk:k<=1):Ra xs (some (k:Int)) none 2=ev (xs.drop k):=(by apply aj:aa (by
 have e:sliceBounds (some (k:Int)) none (some 2) xs.length=(((min k xs.length:Nat):Int),(xs.length:Int),2):=by
  simp only [sliceBounds,jX,show (2:Int)>0 by decide,if_true];rw [if_neg (by omega)];have e0:max 0 (min (k:Int) (xs.length:Int))=((min k xs.length:Nat):Int):=by omega
  rw [e0]
 unfold Ra;rw [e];simp only;unfold sliceRange;simp only [show (2:Int)>0 by decide,if_true];by_cases h:k<xs.length
 ·have e1:min k xs.length=k:=by omega
  rw [e1,if_pos (by omega)];have e2:(((xs.length:Int) - (k:Int)+2 - 1)/2).toNat=((xs.drop k).length+1)/2:=by
   rw [cA];omega
  rw [e2];have e3:=ah8 (xs.drop k) k (xs.take k) (by rw [bO];omega);rw [Pu] at e3;rw [<-e3];congr 1
 ·have e1:min k xs.length=xs.length:=by omega
  rw [e1,if_neg (by omega),gH (by omega)];rfl))
section
variable {X:Cx} {e:Expr} {te:TE} {lo hi:Option Expr} {tl th:TO} {pos p2 p3:Pos} {st:Int} {j3:Nat}
def asN(K:az)(st:Int)(te:TE)(tl th:TO):TE:=λσ H Q=>te σ H λx H1=>tl σ H1 λl H2=>th σ H2 λu H3=>∃a xs,x= .ref a/\cY K H3 a xs/\∀p,H3 p=none->Q (.ref p) (upd H3 p (.lst (Ra xs l u st)))
theorem aaA{α:Type}(xs:List α)(is:List Nat):(is.filterMap (xs[·]?)).length<=is.length:=afA _ _
theorem M5(he:PE X e te)(hl:PO X lo tl)(hu:PO X hi th)(hst:0<st:=by decide):PE X (.Subscript e (.Slice lo hi (some (.Constant (.int st) j3 p3)) p2) pos) (asN X.K st te tl th):=(by apply aj:aa (by
 intro pins s σ H Q I h;refine Subscript_ (jL (he pins s σ H _ I h) λv s1 ⟨x,H1,I1,r1,q1⟩=>?_);refine wpAny_Slice (jL (hl pins s1 σ H1 _ I1 q1) λvl s2 ⟨l,H2,I2,pl,q2⟩=>jL (hu pins s2 σ H2 _ I2 q2) λvu s3 ⟨u,H3,I3,pu,q3⟩=>?_);refine jL (gr (X:=X) (bG (i:=st) (j:=j3) (pos:=p3)) pins s3 σ H3 (λo H'=>o=some st/\H'=H3) I3 ⟨st,rfl,rfl,rfl⟩) λvk s4 ⟨k,H4,I4,pk,ek,eH⟩=>?_;subst ek eH;obtain ⟨a,xs,ex,hx,q⟩:=q3;subst ex;obtain rfl:v=dX a:=r1;have I5:Inv X pins σ H4 {s4 with heap:=s4.heap.push {cls:=.type "slice",data:=.fields #[vl,vu,vk]}}:=I4.kept (t':=s4.toks) λb ob q=>aA _ q;obtain ⟨its,r,ht,hz⟩:=I5.list hx;have hlen:=r.length;show wpAny (model X.prog X.w) X.A (subscriptTail e (.Slice lo hi (some (.Constant (.int st) j3 p3)) p2) (.ref a) (.ref s4.heap.objs.size)) (EP X pins σ Q) X.xe {s4 with heap:=s4.heap.push {cls:=.type "slice",data:=.fields #[vl,vu,vk]}};refine tail_any (ops:=[.ref a,.ref s4.heap.objs.size]) ht.isList.typeIs slot_list_getitem.lookup ?_ (by with_unfolding_all rfl);refine wpAny_getItem_list_slice ht.isList (Heap.IsSliceOf.new ..) pl pu pk (by intro z;have:=aB z;omega) ?_ (by rw [bN]<;>omega);have hr:=Vals.pick r (sliceRange (sliceBounds l u (some st) xs.length).1 (sliceBounds l u (some st) xs.length).2.1 (sliceBounds l u (some st) xs.length).2.2);have e1:(slicePick its.toArray l u (some st))=((sliceRange (sliceBounds l u (some st) xs.length).1 (sliceBounds l u (some st) xs.length).2.1 (sliceBounds l u (some st) xs.length).2.2).filterMap (its.toArray[·]?)).toArray:=by
  unfold slicePick;rw [bN,<-hlen]
 rw [e1];refine ⟨.ref _,_,I5.laid (t':=s4.toks) (o:=.lst (Ra xs l u st)) (λb ob q=>aA _ q) (aU _) ?_,rfl,q _ (I5.hok.fresh (aU _))⟩;refine ⟨?_,_,0,hr,aR _ rfl⟩;refine aY (aaA _ _) (aY (sliceRange_length_le _ _ _ xs.length ?_ ?_) hz)
 ·intro _;simp only [sliceBounds,jX,show st>0 from hst,if_true];constructor
  ·cases l<;>simp<;>omega
  ·cases u<;>simp<;>omega
 ·intro z;exact absurd (show (sliceBounds l u (some st) xs.length).2.2>0 from hst) z))
end
end
section
open PySem PySem.Spec PyProof.Rows
open PySem.AutoSeq1 (wpAny_loadPart')
section
variable {prog:Program} {w:World} {A:Around} {E:Value->Shared->Prop} {s:Shared}
theorem R5{T newId initId:String}{Bn Bi:Builtin}{args:List Value}{kw:List (Str×Value)}{S:di}{Q Q₁:Value->Shared->Prop}(ft:TypeCalled T newId initId)(hct:checkTypeCall T ⟨args,kw⟩=pure ())(hcn:checkBuiltinCall newId ⟨.type T::args,kw⟩=pure ())(entryN:entryFor table newId=some Bn)(entryI:entryFor table initId=some Bi)(g:Meets (Bn ⟨.type T::args,kw⟩) S)(h:S A.in1 (wants Q₁ E) s)(hnext:∀obj s₁,Q₁ obj s₁->s₁.TypeIs obj T/\argsOk initId ⟨obj::args,kw⟩/\∃Si,Meets (Bi ⟨obj::args,kw⟩) Si/\Si A.in1 (wants (λr s₂=>r= .none/\Q obj s₂) E) s₁):
  wpAny (model prog w) A (call (.type T) args kw) Q E s:=(by apply aj:aa (by
 obtain ⟨c,tl,hmro⟩:=ft.mro;have hmade:=ft.made;have hsub:=ft.sub;refine wpAny_call (codeAny_of_tree ?_);show wpAny _ _ (callAny (.type T) _) _ _ _;refine wpAny_pure ⟨Code.quiet_builtin _ (by decide+kernel),codeAny_builtin F.entry_type_call ?_⟩;rw [Around.under_plain (weight_type_call_type T args kw) (units_type_call_type T args kw)];have h1:=ft.notType;have h2:=ft.canCreate
 repeat (any_goals (first | assumption | wp_step))
 refine codeAny_mono (codeAny_call_builtin ft.plain entryN (wpAny_of_eq hcn (g prog w A.in1 _ s h))) λr s₁ hr=>?_;cases r with
 |error e=>exact hr
 |ok fl=>
  cases fl with
  |ret obj=>
   obtain ⟨hT,hok,Si,gi,hsi⟩:=hnext _ _ hr;have hli:=ft.init.lookup;have hbi:=ft.init.bind obj
   repeat (any_goals (first | assumption | wp_step))
   refine codeAny_mono (codeAny_call_builtin ft.init.plain entryI (ft.init.check _ _ _ _ _ _ _ _ hT hok (gi prog w A.in1 _ s₁ hsi))) λr₂ s₂ hr₂=>?_;cases r₂ with
   |error e=>exact hr₂
   |ok fl₂=>
    cases fl₂ with
    |ret r=>
     obtain ⟨rfl,hq⟩:=hr₂
     repeat (any_goals (first | assumption | wp_step))
    |_=>exact hr₂.elim
  |_=>exact hr.elim))
theorem Ky{T newId:String}{self:Value}{a:Value}{rest:List Value}{kw:List (Str×Value)}(hl:typeLookup (.type T) "__init__"=pure (some (.builtin "object.__init__")))(hm:Bind.madeBy (.type T)=pure (some newId))(hne:(some newId != some "object.__new__")=true):
  Meets (Builtin.«object.__init__» ⟨self::a::rest,kw⟩) (λ_ R s=>s.TypeIs self T/\R (.ok (.ret .none)) s):=by
 refine Meets.of_wp λprog w A R s hs=>?_;obtain ⟨hT,hq⟩:=hs
 repeat (any_goals (first | assumption | wp_step))
 exact ⟨_,rfl,hq⟩
end
theorem JL(l:Addr)(items:Array Value)(n:Nat)(dct:Option Addr)(sl:Array (Option Value))(t:Tok):
  Meets (Builtin.«enumerate.__new__» ⟨[.type "enumerate",.ref l],[("start",.int 1 t)]⟩) (λ_ R s=>s.heap.get? l=some {cls:=.type "list",dict:=dct,data:=.seq items n,slots:=sl}/\
   R (.ok (.ret (.ref (s.heap.push {cls:=.type "list_iterator",data:=.fields #[.ref l,.int 0 0]}).objs.size)))
    {s with heap:=(s.heap.push {cls:=.type "list_iterator",data:=.fields #[.ref l,.int 0 0]}).push {cls:=.type "enumerate",data:=.fields #[.none,.bool false,.ref s.heap.objs.size,rawInt 1,.none,.none]}}):=
 .of_wp λprog w A R s h=>by
  obtain ⟨hp,g,d,tk,os⟩:=s;obtain ⟨hl,h⟩:=h;have hsub:=sub_enumerate;have hL:Jl (aaL ⟨hp,g,d,tk,os⟩) l items:=⟨_,hl,rfl,n,rfl⟩
  wp_walk using wpAny_loadPart' hl
  refine wpAny_stack_any λst=>wpAny_pure ?_;split
  ·rename_i c _ _ _ _ _;cases (c==iM "enumerate")
   ·wp_walk using wpAny_loadPart' hl,wpAny_pyIter_list hL
    exact ⟨_,rfl,h⟩
   ·wp_walk using wpAny_loadPart' hl,wpAny_pyIter_list hL
    exact ⟨_,rfl,h⟩
  ·wp_walk using wpAny_loadPart' hl,wpAny_pyIter_list hL
   exact ⟨_,rfl,h⟩
end
section
open PySem PySem.Spec PyProof.Rows
section
variable {prog:Program} {w:World} {A:Around} {E:Value->Shared->Prop} {s:Shared}
theorem J9(a b:Value):checkTypeCall "enumerate" ⟨[a],[("start",b)]⟩=pure ():=by kernel_rfl
theorem Oe(a b:Value):checkBuiltinCall "enumerate.__new__" ⟨[.type "enumerate",a],[("start",b)]⟩=pure ():=by kernel_rfl
theorem QB(a b c:Value):argsOk "object.__init__" ⟨[a,b],[("start",c)]⟩:=by
 first | exact PySem.F.args_object_init_2 a b | rfl | kernel_rfl
theorem Lr{l:Addr}{items:Array Value}{t:Tok}{Q:Value->Shared->Prop}(hL:s.heap.IsList l items)(h:∀h',IsEnum h' (s.heap.objs.size+1) s.heap.objs.size 1 .none->h'.IsListIter s.heap.objs.size l 0->h'.objs.size=s.heap.objs.size+2->
   (∀b o,s.heap.get? b=some o->h'.get? b=some o)->Q (.ref (s.heap.objs.size+1)) {s with heap:=h'}):
  wpAny (model prog w) A (call (.type "enumerate") [.ref l] [("start",.int 1 t)]) Q E s:=(by apply aj:aa (by
 obtain ⟨⟨c,dct,dt,sl⟩,hl,hc,n,hd⟩:=hL;replace hc:c= .type "list":=hc;replace hd:dt= .seq items n:=hd;subst hc hd;refine R5 (Q₁:=λobj s₁=>s₁.TypeIs obj "enumerate"/\Q obj s₁) Vv (J9 _ _) (Oe _ _) F.entry_enumerate_new F.entry_object_init
  (JL l items n dct sl t) ⟨hl,?_⟩ λobj _ hq=>
  ⟨hq.1,QB obj _ _,_,Ky Vv.init.lookup Vv.made (by decide),hq.1,rfl,hq.2⟩
 have hz:(s.heap.push {cls:=.type "list_iterator",data:=.fields #[.ref l,.int 0 0]}).objs.size=s.heap.objs.size+1:=cQ ..;show _/\_;rw [hz];have he:IsEnum ((s.heap.push {cls:=.type "list_iterator",data:=.fields #[.ref l,.int 0 0]}).push
   {cls:=.type "enumerate",data:=.fields #[.none,.bool false,.ref s.heap.objs.size,rawInt 1,.none,.none]}) (s.heap.objs.size+1) s.heap.objs.size 1 .none:=by
  have:=aR (s.heap.push {cls:=.type "list_iterator",data:=.fields #[.ref l,.int 0 0]})
   (o:={cls:=.type "enumerate",data:=.fields #[.none,.bool false,.ref s.heap.objs.size,rawInt 1,.none,.none]}) rfl
  rw [hz] at this;exact this
 refine ⟨⟨_,he,rfl⟩,h _ he ⟨_,aA _ (aR _ rfl),rfl,rfl⟩ (by rw [cQ,hz]) λb o x=>aA _ (aA _ x)⟩))
end
theorem apH{prog:Program}{w:World}{A:Around}{it:Addr}{fp:List Addr}{n:Nat}{P:Nat->Value->Prop}{S:Nat->Heap->Prop}(D:Draws prog w A it fp n P S):
  Draws prog w A it fp (n+1) (λi v=>1<=i/\P (i - 1) v) (λi h=>1<=i/\S (i - 1) h) where
 live:=λi h st=>D.live (i - 1) h st.2
 frame:=λi h h' st k=>⟨st.1,D.frame (i - 1) h h' st.2 k⟩
 item:=λi s Q E hi st hQ=>D.item (i - 1) s Q E (by have:=st.1;omega) st.2 λx h' tk p q k=>hQ x h' tk ⟨st.1,p⟩ ⟨by omega,(by have e:i+1 - 1=i - 1+1:=(by have:=st.1;omega);rw [e];exact q)⟩ k
 done:=λs Q E st hE=>D.done s Q E st.2 hE
def ams(K:az)(a:Addr):It:=
 ⟨λi H=>∃(xs:List V) (x:V),cY K H a xs/\xs[i]? =some x,λi H v H'=>∃T x,v= .ref T/\H T=none/\H'=upd H T (.tup [.int ((i+1:Nat):Int),x])/\∀xs,cY K H a xs->xs[i]? =some x,λi H=>∃xs:List V,cY K H a xs/\xs.length<=i⟩
theorem afM{P:Program}{w:World}{K:az}{elts:List Expr}{kk:Nat}{tpos:Pos}(a e it:Addr):
  Turn P w K (.Tuple elts kk tpos) (ams K a) [e,it] e (λi h=>(∃old,IsEnum h e it ((i+1:Nat):Int) old)/\h.IsListIter it a i/\e≠it) where
 mem:=by simp
 obj:=λi h st b hb=>by
  obtain ⟨⟨old,he⟩,⟨o,ho,hc,hd⟩,_⟩:=st;have e':b=e\/b=it:=by simpa using hb
  rcases e' with z | z
  ·rw [z];exact ⟨_,he,λv q=>nomatch q⟩
  ·rw [z];exact ⟨o,ho,λv q=>by rw [hd] at q;cases q⟩
 keep:=λi h h' st k=>let ⟨⟨old,he⟩,hi,hne⟩:=st;⟨⟨old,k e (by simp) _ he⟩,hi.at λo q=>k it (by simp) o q,hne⟩
 item:=by
  intro X hP hw hK hc i pins s σ H E I hf st hg;subst hP hw hK;obtain ⟨⟨old,he⟩,hit,hne⟩:=st;obtain ⟨xs,x,hq,hx⟩:=hg;obtain ⟨its,rv,p,hz⟩:=I.list hq;obtain ⟨u,hu,ru⟩:=rv.get hx;have hel:e<s.heap.objs.size:=aZ he;have hil:it<s.heap.objs.size:=by obtain ⟨_,q,_⟩:=hit;exact aZ q
  have hla:a≠it:=by
   intro z;obtain ⟨ol,e1,e2,_⟩:=p.isList;obtain ⟨oi,e3,e4,_⟩:=hit;rw [z,e3] at e1;cases e1;exact absurd (QK (e4.symm.trans e2)) (by decide)
  have hea:e≠a:=by
   intro z;obtain ⟨ol,e1,e2,_⟩:=p.isList;rw [<-z,he] at e1;cases e1;exact absurd (QK e2) (by decide)
  have D:=apH (Draws.list (prog:=X.prog) (w:=X.w) (A:=X.A.in1) (I.ok.hd hc) it a hla its.toArray);have hlt:i<its.toArray.size:=by
   obtain ⟨z,_⟩:=aQ.mp hu;simpa using z
  refine wpAny_pyNext_enum_itemD D he (i:=i+1) ⟨Nat.le_add_left 1 i,hit,p.isList⟩ (by omega) hne (by simp [hne,hea]) λx2 h' tk hP ho hit2 hT hsz hk=>?_;have ex2:x2=u:=by
   have z:its.toArray[i]? =some x2:=hP.2;have z2:its.toArray[i]? =some u:=by simpa using hu
   exact aB (z.symm.trans z2)
  subst ex2;have hit':h'.IsListIter it a (i+1):=hit2.2.1;refine ⟨_,rfl,wpAny_letOwnedTupleGo_enum (s:={s with heap:=h',toks:=tk+1}) ho λh'' he' sb=>?_⟩;have hT2:h''.get? s.heap.objs.size=some {cls:=.type "tuple",data:=.seq #[.int ((i+1:Nat):Int) tk,x2]}:=(sb.2 _ (j7 hel)).trans hT;have new:lE X.prog X.w (upd H s.heap.objs.size (.tup [.int ((i+1:Nat):Int),x])) h'' s.heap.objs.size (.tup [.int ((i+1:Nat):Int),x]):=
   ⟨by show 2<=sizeLine;decide,[.int ((i+1:Nat):Int) tk,x2],.cons ⟨_,rfl⟩ (.cons ru .nil),⟨_,hT2,rfl,_,rfl⟩⟩
  have I1:Inv X pins σ (upd H s.heap.objs.size (.tup [.int ((i+1:Nat):Int),x])) {s with heap:=h'',toks:=tk+1}:=
   I.MN (ch:=[e,it]) (λb ob hb q=>(sb.2 b (λz=>hb (by simp [z]))).trans (hk b ob (λz=>hb (by simp [z])) (λz=>hb (by simp [z])) q)) hf (aU _) new
  refine ⟨.ref s.heap.objs.size,_,I1,rfl,⟨_,x,rfl,I.hok.fresh (aU _),rfl,λys hy=>by rw [I.Bm hy hq];exact hx⟩,⟨⟨x2,?_⟩,hit'.at λo q=>(sb.2 it (cO hne)).trans q,hne⟩,λb hb=>?_⟩
  ·have e1:((i+1+1:Nat):Int)=((i+1:Nat):Int)+1:=by omega
   rw [e1];exact he'
  ·have hb':b<s.heap.objs.size:=by
    have e':b=e\/b=it:=by simpa using hb
    rcases e' with z | z
    ·rw [z];exact hel
    ·rw [z];exact hil
   rw [aF (b8 hb')];exact (hf b hb).1
 done:=by
  intro X hP hw hK hc i pins s σ H E I hf st hg;subst hP hw hK;obtain ⟨⟨old,he⟩,hit,hne⟩:=st;obtain ⟨xs,hq,hx⟩:=hg;obtain ⟨its,rv,p,hz⟩:=I.list hq;obtain ⟨f0,f1,f2,f3,f4,f5⟩:=hf it (by simp);have hl:=rv.length;have D:Draws X.prog X.w X.A.in1 it [it,a] (i+1) (λ_ _=>True) (λj h=>j=i+1/\h.IsListIter it a i/\h.IsList a its.toArray):=
   {live:=λ_ _ st=>let ⟨o,ho,_⟩:=st.2.1;⟨o,ho⟩
    frame:=λ_ _ _ st hk=>⟨st.1,st.2.1.at λo e=>hk it (by simp) o e,st.2.2.at λo e=>hk a (by simp) o e⟩
    item:=λj s Q E hj st hQ=>absurd st.1 (by omega)
    done:=λs Q E st hE=>wpAny_nextOf_list_end (I.ok.hd hc) st.2.1 st.2.2 (by simp;omega) hE}
  exact wpAny_pyNext_enum_endD D he ⟨rfl,hit,p.isList⟩ λh' eb=>⟨rfl,I.turned (t':=s.toks) (λb o hb q=>eb b o hb q) f0 f1 f3 f4 f5⟩
 self:=λA i s Q E st h=>let ⟨⟨_,he⟩,_⟩:=st;wpAny_pyIter_enum he h
theorem Uo{M:Model}{A:Around}{E:Value->Shared->Prop}{s:Shared}{pos:Pos}{T:String}{first:List Value}{args:List (Bool×Sem Value)}{keywords:List (Option Str×Sem Value)}{Q:Value->Shared->Prop}(hplain:args.any (·.1)=false)(hkw:keywords.any (·.1.isNone)=false)(h:wpAny M A (evalArgs (.type T) true args keywords) (λa s₁=>wpAny M A (call (.type T) (first++a.pos) a.kw) Q E s₁) E s):
  wpAny M A (callWith pos (.type T) first args keywords) Q E s:=by
 unfold callWith;refine wpAny_bind (wpAny_holding (wpAny_mono h (λa s₁ h₁=>wpAny_bind (wpAny_standAt ?_)) λ_ _ x=>x));simp only [hplain,hkw,afE];refine wpAny_bind (wpAny_pure ?_);exact wpAny_bind (wpAny_mono h₁ (λr s₂ hr=>wpAny_bind (wpAny_holding (wpAny_point (wpAny_pure hr)))) λ_ _ x=>x)
def apf(K:az)(ta:TA):TI:=λσ H R=>ta σ H λvs H1=>∃a xs,vs=[.ref a]/\cY K H1 a xs/\R (ams K a) H1
theorem XD{X:Cx}{e:Expr}{ta:TA}{p pos tpos kp vp:Pos}{kj:Nat}{elts:List Expr}{kk:Nat}(hg:Gl X "enumerate")(hm:X.mg "enumerate"=none)(ha:PA X [e] ta)(hs:starEach [e] X.env=[(false,eval e X.env)]:=by rfl):
  PI X (.Tuple elts kk tpos) (.Call (.Name "enumerate" p) [e] [⟨some "start",.Constant (.int 1) kj vp,kp⟩] pos) (apf X.K ta):=(by apply aj:aa (by
 intro pins s σ H R I h;refine wpAny_Call_Name_kw (KZ I hg hm boot_enumerate ?_);refine Uo (by rw [hs];rfl) (by rfl) ?_;have hA:=ha pos pins s σ H _ I h;rw [hs] at hA⊢;refine evalArgs_kwB (by rfl) ?_;refine jL hA λus s1 ⟨vs,H1,I1,r1,q1⟩=>?_;obtain ⟨a,xs,ex,hq,q⟩:=q1;subst ex;cases r1 with
 |cons r rr=>
  cases rr;cases r;refine kws_cons (wpAny_Constant_int (kws_nil ?_));have I1:=I1.tok (s1.toks+1);obtain ⟨its,rv,p',hz⟩:=I1.list hq;refine Lr (t:=s1.toks) p'.isList λh' he hit hsz hk=>wpAny_pyIter_enum he ?_;have I2:Inv X pins σ H1 {s1 with heap:=h',toks:=s1.toks+1}:=I1.kept (t':=s1.toks+1) hk;refine ⟨s1.heap.objs.size+1,[s1.heap.objs.size+1,s1.heap.objs.size],_,_,H1,rfl,I2,afM a (s1.heap.objs.size+1) s1.heap.objs.size,⟨⟨.none,he⟩,hit,Nat.succ_ne_self _⟩,λb hb=>?_,q⟩;have e':b=s1.heap.objs.size+1\/b=s1.heap.objs.size:=by simpa using hb
  have hle:s1.heap.objs.size<=b:=by
   rcases e' with z | z
   ·rw [z];exact gU _ _
   ·rw [z];exact aU _
  exact I1.agC hle (I1.hok.fresh hle)))
theorem ajv{X:Cx}{pins:List (Addr×Obj)}{σ:St}{H:Hp}{s:Shared}(I:Inv X pins σ H s)(d:Drawn):Inv X pins σ H {s with drawn:=d}:=
 ⟨I.ok,I.os,I.bare,I.base,I.loc,I.cell,I.free,I.Dh,I.pin,I.hok,I.len⟩
theorem ajY:bootBuiltins "set"=some (.type "set"):=by decide+kernel
theorem acY:bootBuiltins "sorted"=some (.builtin "sorted"):=by decide+kernel
theorem agR:bootBuiltins "list"=some (.type "list"):=by decide+kernel
def tSS(K:az)(t:TA):TE:=λσ H Q=>t σ H λvs H1=>∃(a:Addr) (ns:List Int),vs=[V.ref a]/\cY K H1 a (ns.map V.int)/\ns.length<1000/\
 ∀(ns':List Int) (p:Addr),ns'.Perm (ns.foldl step_dedup [])->ns'.Pairwise (· <=·)->H1 p=none->Q (.ref p) (upd H1 p (.lst (ns'.map V.int)))
theorem ace{X:Cx}{e:Expr}{t:TA}{p p2 pos pos2:Pos}(hc:X.calm=true)(hg:Gl X "sorted")(hm:X.mg "sorted"=none)(hg2:Gl X "set")(hm2:X.mg "set"=none)(ha:PA X [e] t)(hs:starEach [.Call (.Name "set" p2) [e] [] pos2] X.env=(false,eval (.Call (.Name "set" p2) [e] [] pos2) X.env)::starEach [] X.env:=by rfl)(he:starEach [e] X.env=(false,eval e X.env)::starEach [] X.env:=by rfl)(hpl:(backTo pos (starEach [] X.env)).any (·.1)=false:=by rfl)(at4:(backTo pos2 (starEach [] X.env)).any (·.1)=false:=by rfl):
  PE X (.Call (.Name "sorted" p) [.Call (.Name "set" p2) [e] [] pos2] [] pos) (tSS X.K t):=(by apply aj:aa (by
 intro pins s σ H Q I h;refine wpAny_Call_Name_kw (KZ I hg hm acY ?_ (by decide) (by decide));refine ZF ?_ hs hpl;rw [hs];show wpAny _ _ (spliced ((false,eval (.Call (.Name "set" p2) [e] [] pos2) X.env)::backTo pos (starEach [] X.env))) _ _ s;refine jl ?_;refine wpAny_Call_Name_kw (KZ I hg2 hm2 ajY ?_ (by decide) (by decide));refine lH (jL (ha pos2 pins s σ H _ I h) λus s1 ⟨vs,H1,I1,r1,q1⟩=>?_) he at4;obtain ⟨a,ns,rfl,hq,hl,q⟩:=q1;obtain ⟨its,rv,pl,_⟩:=I1.list hq;rw [Vals.ak9 r1];have hh:=I1.ok.hd hc;have hi:=rv.ints;have hlen:its.length=ns.length:=hi.length;refine ajX hh pl.isList (by simpa using hi) (by simp only [bN];unfold scanBound;omega) λh1 tk x kp=>?_;refine m5 ?_;have hd:=abg [] ns;simp only [bF,mX] at hd;refine afS (s:={s1 with heap:=h1,toks:=tk}) hh x (aY hd (by rw [sizeLine_eq];omega)) λns' its' pa h2 d c i1 i2 i3 le g k2=>?_;have kk:∀b o,s1.heap.get? b=some o->h2.get? b=some o:=λb o e=>k2 b o (kp b o (aZ e) e);have lt:s1.heap.objs.size<h1.objs.size:=by
  obtain ⟨o,_,_,_,ho,_⟩:=x;exact aZ ho
 have le':s1.heap.objs.size<=pa:=aY (Dv lt) le;have I2:Inv X pins σ (upd H1 pa (.lst (ns'.map V.int))) {s1 with heap:=h2,toks:=tk}:=by
  refine I1.laid kk le' ⟨?_,its',c,Q3 (by simpa using i1),g⟩;rw [ao,i2.length_eq];exact aY hd (by rw [sizeLine_eq];omega)
 exact ⟨.ref pa,_,ajv I2 d,rfl,q ns' pa i2 i3 (I1.hok.fresh le')⟩))
theorem alu{X:Cx}:MtR X "str.zfill" (λx xs H Q=>∃a i,x= .str a/\xs=[.int i]/\PadOk i=true/\Q (.str (Txt.zfill a i)) H):=by
 intro pins s σ H x xs v us Q I r1 r2 h;obtain ⟨a,i,rfl,rfl,hp,q⟩:=h;obtain ⟨t,rfl⟩:=r1;cases r2 with
 |cons r rr=>
  cases rr;obtain ⟨t2,rfl⟩:=r;exact SC.zfill hp λt' k=>⟨.str _,H,I.kept (t':=k) λb u e=>e,⟨_,rfl⟩,q⟩
noncomputable def batch (H:Hp) (as:List Addr) (f:Nat->HO):Hp:=λb=>match as.findIdx? (λc=>c==b) with | some i=>some (f i) | none=>H b
theorem amk{H:Hp}{as:List Addr}{f:Nat->HO}(nd:as.Nodup){i:Nat}{a:Addr}(h:as[i]? =some a):batch H as f a=some (f i):=by
 unfold batch;have e:as.findIdx? (λc=>c==a)=some i:=by
  obtain ⟨hi,ei⟩:=aQ.mp h;rw [mK];refine ⟨hi,by simp [ei],λj hj=>?_⟩;intro z;have ej:as[j]'(by omega)=a:=by simpa using z
  exact ug.mp nd j i (by omega) hi hj (ej.trans ei.symm)
 rw [e]
theorem abo{H:Hp}{as:List Addr}{f:Nat->HO}{b:Addr}(h:b∉as):batch H as f b=H b:=by
 unfold batch;have e:as.findIdx? (λc=>c==b)=none:=by
  rw [Gp];intro c hc;simp only [beq_eq_false_iff_ne,ne_eq];exact λz=>h (z▸hc)
 rw [e]
theorem alI{X:Cx}{pins:List (Addr×Obj)}{σ:St}{H H':Hp}{s:Shared}{h':Heap}{t':Nat}(I:Inv X pins σ H s)(k:∀b u,s.heap.get? b=some u->h'.get? b=some u)(old:∀b,b<s.heap.objs.size->H' b=H b)(new:∀b o,s.heap.objs.size<=b->H' b=some o->lE X.prog X.w H' h' b o):Inv X pins σ H' {s with heap:=h',toks:=t'}:=(by apply aj:aa (by
 have lt:∀b u,H b=some u->b<s.heap.objs.size:=λb u e=>(I.hok b u e).lt;have up:∀b u,H b=some u->H' b=some u:=λb u e=>(old b (lt b u e)).trans e;refine I.un ⟨λb o e _ _ _=>k b o e,λb o e _ _ _=>⟨o.slots,k b o e⟩,λb o e n _=>(old b (aZ e)).trans n,λb o e _=>⟨o,k b o e⟩,λb xs e=>up b _ e,λb o u e=>up b _ e,λb ps e=>⟨#[],by rw [up b _ e];simp⟩⟩ ?_;intro b u e;rcases Oc b s.heap.objs.size with hb | hb
 ·rw [old b hb] at e;exact (I.hok b u e).stay (λc v _ q=>k c v q) (λc q=>up c _ q) λc xs q=>up c _ q
 ·exact new b u hb e))
def tLI(td:TE):TE:=λσ H Q=>td σ H λx H1=>∃d kvs,x= .ref d/\H1 d=some (.dK kvs)/\
 ∀(l:Addr) (as:List Addr) (H2:Hp),bh H1 H2->H1 l=none->H2 l=some (.lst (as.map V.ref))->as.length=kvs.length->
  (∀(i:Nat) (a:Addr) (k:Key) (v:V),as[i]? =some a->kvs[i]? =some (k,v)->H2 a=some (.tup [kV k,v])/\H1 a=none)->Q (.ref l) H2
theorem ach{X:Cx}{e:Expr}{td:TE}{p pos apos cpos:Pos}(hc:X.calm=true)(hg:Gl X "list")(hm:X.mg "list"=none)(he:PE X e td)(hbase:attributeBase e "items" X.env (eval e X.env)=eval e X.env:=by rfl)(hline:(apos.endLine==cpos.line)=true:=by rfl)(hs:starEach [.Call (.Attribute e "items" apos) [] [] cpos] X.env=(false,eval (.Call (.Attribute e "items" apos) [] [] cpos) X.env)::starEach [] X.env:=by rfl)(hpl:(backTo pos (starEach [] X.env)).any (·.1)=false:=by rfl):
  PE X (.Call (.Name "list" p) [.Call (.Attribute e "items" apos) [] [] cpos] [] pos) (tLI td):=(by apply aj:aa (by
 intro pins s σ H Q I h;refine wpAny_Call_Name_kw (KZ I hg hm agR ?_ (by decide) (by decide));refine lH ?_ hs hpl;rw [hs];show wpAny _ _ (spliced ((false,eval (.Call (.Attribute e "items" apos) [] [] cpos) X.env)::backTo pos (starEach [] X.env))) _ _ s;refine jl ?_;refine wpAny_Call_method (T:="dict") (id:="dict.items") hbase rfl hline Ww Jm F.type_dict_items (jL (he pins s σ H _ I h) λu s1 ⟨x,H1,I1,rx,d,kvs,ex,hd,q⟩=>?_);subst ex;obtain rfl:u=dX d:=rx;obtain ⟨hz,hsm,vs,kv,hD⟩:=I1.hok d _ hd;obtain ⟨o,es,ep,ho,hx,hdt,r⟩:=id hD;have hAt:s1.heap.DictAt (fY X.prog X.w) d vs ep:=⟨o,es,ho,hx,hdt,r⟩;have hl:kvs.length=vs.length:=jy kv;refine ⟨hD.typeIs,hD.mapOf.noDict,?_⟩;have hlt:d<s1.heap.objs.size:=aZ ho;show wpAny _ _ (callWith cpos (.builtin "dict.items") [.ref d] [] []) _ X.xe s1;refine method_meetsIn Jm F.entry_dict_items rfl (SQ ⟨rfl,hD.typeIs,F.args_dict_items_1 _,_,meets_dict_items (fY X.prog X.w) d hsm,⟨vs,hD⟩,?_⟩);refine m5 ?_;refine PySem.W.kdx_call (knd:=fY X.prog X.w) (kvs:=vs) (ep:=ep) (d:=d) (I1.ok.hd hc) ⟨_,aR _ rfl,rfl,rfl⟩ (hAt.push _) (by rw [<-hl];exact hz) λh' tk acc c as kp g hal hG hacc=>?_;have sz:(s1.heap.push {cls:=.type "dict_items",data:=.fields #[.ref d]}).objs.size=s1.heap.objs.size+1:=cQ _ _;dsimp only at kp g hG;rw [sz] at g hG;have kk:∀b u,s1.heap.get? b=some u->h'.get? b=some u:=λb u e=>kp b u (aA _ e);have hab:∀a∈as,s1.heap.objs.size+1<a:=hG.above;have nd:as.Nodup:=hG.rise.imp λh=>b8 h;have nl:s1.heap.objs.size+1∉as:=λz=>absurd (hab _ z) (je _);obtain ⟨f,hf⟩:∃f:Nat->HO,f=λi=>match kvs[i]? with | some (k,v)=>.tup [kV k,v] | none=>.tup []:=⟨_,rfl⟩
 obtain ⟨H2,hH2⟩:∃H2,H2=upd (batch H1 as f) (s1.heap.objs.size+1) (.lst (as.map V.ref)):=⟨_,rfl⟩;have old:∀b,b<s1.heap.objs.size->H2 b=H1 b:=λb hb=>by
  rw [hH2,aF (b8 (jD hb))];exact abo λz=>absurd (xN (jD hb) (hab b z)) (je _)
 have at2:∀i a,as[i]? =some a->H2 a=some (f i):=λi a e=>by
  rw [hH2,aF (j7 (hab a (aM e)))];exact amk nd e
 have new:∀b ob,s1.heap.objs.size<=b->H2 b=some ob->lE X.prog X.w H2 h' b ob:=λb ob hb e=>by
  by_cases hbl:b=s1.heap.objs.size+1
  ·subst hbl;rw [hH2,aD] at e;cases e;refine ⟨by rw [ao,hal,<-hl];exact hz,as.map dX,c,?_,by rw [<-hacc];simpa using g⟩;clear hal hG hacc hab nd nl at2 old hH2
   induction as with
   |nil=>exact .nil
   |cons a as ih=>exact .cons rfl (ih)
  ·by_cases hm:b∈as
   ·obtain ⟨i,hi⟩:=aki.mp hm;rw [at2 i b hi] at e;have e:=aB e;obtain ⟨key,k,v,e1,e2,e3⟩:=hG.pairs i b hi;have hil:i<kvs.length:=by
     have:=(aQ.mp e1).1;omega
    obtain ⟨⟨k',v'⟩,hkv⟩:∃p,kvs[i]? =some p:=⟨kvs[i],ak hil⟩;obtain ⟨u,hu,ru⟩:=agq kv hkv;rw [e1] at hu;obtain ⟨rfl,rfl⟩:=eV (aB hu);rw [hf] at e;dsimp only at e;rw [hkv] at e;subst e;exact ⟨by show 2<=sizeLine;decide,[key,v],.cons (ad2 e2) (.cons ru .nil),⟨_,e3,rfl,_,rfl⟩⟩
   ·rw [hH2,aF hbl,abo hm] at e;exact absurd ((I1.hok b ob e).lt) (Nat.not_lt.mpr hb)
 have I2:Inv X pins σ H2 {s1 with heap:=h',toks:=tk}:=alI I1 kk old new;refine ⟨.ref (s1.heap.objs.size+1),H2,I2,by rw [sz];rfl,q _ as H2 (λb u e=>?_) (I1.hok.fresh (Ak _)) (by rw [hH2];exact aD) (by rw [hal,hl]) λi a k v e1 e2=>?_⟩
 ·rw [old b (I1.hok b u e).lt];exact e
 ·refine ⟨?_,I1.hok.fresh (Dv (xN (jY _) (hab a (aM e1))))⟩;rw [at2 i a e1,hf];dsimp only;rw [e2]))
def arW(K:az)(a b c:Addr):It:=
 ⟨λi H=>∃(xs ys us:List V) (x y u:V),cY K H a xs/\cY K H b ys/\cY K H c us/\xs[i]? =some x/\ys[i]? =some y/\us[i]? =some u,
  λi H v H'=>∃T x y u,v= .ref T/\H T=none/\H'=upd H T (.tup [x,y,u])/\(∀xs,cY K H a xs->xs[i]? =some x)/\(∀ys,cY K H b ys->ys[i]? =some y)/\∀us,cY K H c us->us[i]? =some u,
  λi H=>∃xs:List V,cY K H a xs/\xs.length<=i⟩
theorem aiE{P:Program}{w:World}{K:az}{elts:List Expr}{kk:Nat}{tpos:Pos}{a b c z TI TO i1 i2 i3:Addr}(D:Ap3 z TI TO i1 i2 i3 a b c):
  Turn P w K (.Tuple elts kk tpos) (arW K a b c) [z,TI,TO,i1,i2,i3] z (λi h=>Z3 h z TI TO i1 i2 i3 a b c .none i) where
 mem:=by simp
 obj:=λi h st d hd=>by
  obtain ⟨hz,hTI,⟨x,y,u,hTO⟩,⟨o1,e1,_,d1⟩,⟨o2,e2,_,d2⟩,⟨o3,e3,_,d3⟩⟩:=st;have e':d=z\/d=TI\/d=TO\/d=i1\/d=i2\/d=i3:=by simpa using hd
  rcases e' with q | q | q | q | q | q
  ·rw [q];exact ⟨_,hz,λv q=>nomatch q⟩
  ·rw [q];exact ⟨_,hTI,λv q=>nomatch q⟩
  ·rw [q];exact ⟨_,hTO,λv q=>nomatch q⟩
  ·rw [q];exact ⟨o1,e1,λv q=>by rw [d1] at q;cases q⟩
  ·rw [q];exact ⟨o2,e2,λv q=>by rw [d2] at q;cases q⟩
  ·rw [q];exact ⟨o3,e3,λv q=>by rw [d3] at q;cases q⟩
 keep:=λi h h' st k=>
  let ⟨hz,hTI,⟨x,y,u,hTO⟩,h1,h2,h3⟩:=st
  ⟨k z (by simp) _ hz,k TI (by simp) _ hTI,⟨x,y,u,k TO (by simp) _ hTO⟩,h1.at λo q=>k i1 (by simp) o q,h2.at λo q=>k i2 (by simp) o q,h3.at λo q=>k i3 (by simp) o q⟩
 item:=by
  intro X hP hw hK hc i pins s σ H E I hf st hg;subst hP hw hK;obtain ⟨xs,ys,us,x,y,u,hqx,hqy,hqu,hx,hy,hu⟩:=hg;obtain ⟨its,rv,p,_⟩:=I.list hqx;obtain ⟨its2,rv2,p2,_⟩:=I.list hqy;obtain ⟨atN,rv3,p3,_⟩:=I.list hqu;obtain ⟨v1,hv1,r1⟩:=rv.get hx;obtain ⟨v2,hv2,r2⟩:=rv2.get hy;obtain ⟨v3,hv3,r3⟩:=rv3.get hu;have hzl:z<s.heap.objs.size:=aZ st.z;refine agk D st p.isList p2.isList p3.isList (x:=v1) (y:=v2) (u:=v3) (by simpa using hv1) (by simpa using hv2) (by simpa using hv3) λh' Z' hT hsz hk=>?_;refine ⟨_,rfl,wpAny_letOwnedTupleGo_zip (s:={s with heap:=h'}) Z'.z λh'' z'' sb=>?_⟩;have hT2:h''.get? s.heap.objs.size=some {cls:=.type "tuple",data:=.seq #[v1,v2,v3]}:=(sb.2 _ (j7 hzl)).trans hT;have new:lE X.prog X.w (upd H s.heap.objs.size (.tup [x,y,u])) h'' s.heap.objs.size (.tup [x,y,u]):=
   ⟨by show 3<=sizeLine;decide,[v1,v2,v3],.cons r1 (.cons r2 (.cons r3 .nil)),⟨_,hT2,rfl,_,rfl⟩⟩
  have I1:Inv X pins σ (upd H s.heap.objs.size (.tup [x,y,u])) {s with heap:=h''}:=
   I.MN (t':=s.toks) (ch:=[z,TI,TO,i1,i2,i3]) (λd o hb q=>(sb.2 d (λq'=>hb (by simp [q']))).trans (hk d o hb q)) hf (aU _) new
  have nd:=D.nd;simp only [pW,bc,not_or,bU,not_false_eq_true,and_true,xO,true_and] at nd;obtain ⟨⟨a1,a2,a3,a4,a5⟩,_⟩:=nd;refine ⟨.ref s.heap.objs.size,_,I1,rfl,⟨_,x,y,u,rfl,I.hok.fresh (aU _),rfl,λl hl=>by rw [I.Bm hl hqx];exact hx,λl hl=>by rw [I.Bm hl hqy];exact hy,λl hl=>by rw [I.Bm hl hqu];exact hu⟩,?_,λd hdm=>?_⟩
  ·obtain ⟨_,t1,⟨w1,w2,w3,t2⟩,k1,k2,k3⟩:=Z';exact ⟨z'',(sb.2 _ (cO a1)).trans t1,⟨w1,w2,w3,(sb.2 _ (cO a2)).trans t2⟩,k1.at λo q=>(sb.2 _ (cO a3)).trans q,k2.at λo q=>(sb.2 _ (cO a4)).trans q,k3.at λo q=>(sb.2 _ (cO a5)).trans q⟩
  ·have hlt:d<s.heap.objs.size:=by
    obtain ⟨hz,hTI,⟨_,_,_,hTO⟩,⟨_,e1,_⟩,⟨_,e2,_⟩,⟨_,e3,_⟩⟩:=st;have e':d=z\/d=TI\/d=TO\/d=i1\/d=i2\/d=i3:=by simpa using hdm
    rcases e' with q | q | q | q | q | q
    ·rw [q];exact hzl
    ·rw [q];exact aZ hTI
    ·rw [q];exact aZ hTO
    ·rw [q];exact aZ e1
    ·rw [q];exact aZ e2
    ·rw [q];exact aZ e3
   rw [aF (b8 hlt)];exact (hf d hdm).1
 done:=by
  intro X hP hw hK hc i pins s σ H E I hf st hg;subst hP hw hK;obtain ⟨xs,hqx,hend⟩:=hg;obtain ⟨its,rv,p,_⟩:=I.list hqx;have l1:=rv.length;exact ajb (I.ok.hd hc) D st p.isList (by simp;omega) λh' hk=>⟨rfl,I.aht (t':=s.toks) (ch:=[z,TI,TO,i1,i2,i3]) (λd o hb q=>hk d o hb q) hf⟩
 self:=λA i s Q E st h=>wpAny_pyIter_zip st.z h
def aq6(K:az)(ta:TA):TI:=λσ H R=>ta σ H λvs H1=>∃a b c xs ys us,vs=[.ref a,.ref b,.ref c]/\cY K H1 a xs/\cY K H1 b ys/\cY K H1 c us/\R (arW K a b c) H1
theorem apT{n a b c:Addr}(la:a<n)(lb:b<n)(lc:c<n):Ap3 (n+5) (n+3) (n+4) n (n+1) (n+2) a b c:=(by apply aj:aa (by
 have la:(a:Nat)<(n:Nat):=la;have lb:(b:Nat)<(n:Nat):=lb;have lc:(c:Nat)<(n:Nat):=lc;have key:∀x:Nat,x<(n:Nat)->x∉[(n:Nat)+5,(n:Nat)+3,(n:Nat)+4,(n:Nat),(n:Nat)+1,(n:Nat)+2]:=λx hx z=>by
  simp only [bc,bU,or_false] at z;omega
 refine ⟨?_,key a la,key b lb,key c lc⟩;have six:∀m:Nat,[m+5,m+3,m+4,m,m+1,m+2].Nodup:=λm=>by simp
 exact six n))
theorem am3{X:Cx}{e e2 e3:Expr}{ta:TA}{p pos tpos:Pos}{elts:List Expr}{kk:Nat}(hg:Gl X "zip")(hm:X.mg "zip"=none)(ha:PA X [e,e2,e3] ta)(hs:starEach [e,e2,e3] X.env=(false,eval e X.env)::starEach [e2,e3] X.env:=by rfl)(hpl:(backTo pos (starEach [e2,e3] X.env)).any (·.1)=false:=by rfl):
  PI X (.Tuple elts kk tpos) (.Call (.Name "zip" p) [e,e2,e3] [] pos) (aq6 X.K ta):=(by apply aj:aa (by
 intro pins s σ H R I h;refine Call_ (KZ I hg hm abj (lH (jL (ha pos pins s σ H _ I h) λus s1 ⟨vs,H1,I1,r1,q1⟩=>?_) hs hpl));obtain ⟨a,b,c,xs,ys,us',ex,hqx,hqy,hqu,q⟩:=q1;subst ex;cases r1 with
 |cons r rr=>
  cases rr with
  |cons r' rr=>
   cases rr with
   |cons r'' rr=>
    cases rr;cases r;cases r';cases r'';obtain ⟨its,rv,p1,_⟩:=I1.list hqx;obtain ⟨its2,rv2,p2,_⟩:=I1.list hqy;obtain ⟨atN,rv3,p3,_⟩:=I1.list hqu;refine ajV p1.isList p2.isList p3.isList λh' Z hk=>wpAny_pyIter_zip Z.z ?_;have I2:Inv X pins σ H1 {s1 with heap:=h'}:=I1.kept (t':=s1.toks) hk;refine ⟨s1.heap.objs.size+5,[s1.heap.objs.size+5,s1.heap.objs.size+3,s1.heap.objs.size+4,s1.heap.objs.size,s1.heap.objs.size+1,s1.heap.objs.size+2],_,_,H1,rfl,I2,aiE (apT p1.lt p2.lt p3.lt),Z,λd hdm=>?_,q⟩;have hle:s1.heap.objs.size<=d:=by
     have e':d=s1.heap.objs.size+5\/d=s1.heap.objs.size+3\/d=s1.heap.objs.size+4\/d=s1.heap.objs.size\/d=s1.heap.objs.size+1\/d=s1.heap.objs.size+2:=by simpa using hdm
     rcases e' with z | z | z | z | z | z
     ·rw [z];exact gU _ _
     ·rw [z];exact gU _ _
     ·rw [z];exact gU _ _
     ·rw [z];exact aU _
     ·rw [z];exact gU _ _
     ·rw [z];exact gU _ _
    exact I1.agC hle (I1.hok.fresh hle)))
noncomputable def top (i:Nat):Stmt:=PySem.Challenge.pw_tonnebook_s01_answers.main.body.getD i (.Pass ⟨0,0,0,0⟩)
theorem hu1{k:Nat}{A:Around}(hr:wg k A):A.units+1<cLine:=by have:=hr.un;omega
theorem ant{k:Nat}{A:Around}(hr:wg k A):A.units+64<cLine:=by have:=hr.un;omega
theorem uW{X:Cx}{K:az}{pos:Pos}{es:List Expr}{k:Nat}{t:TGs}{n:Nat}(hK:X.K=K)(hc:X.calm=true)(h:PGs X es t)(hn:(assignEach es X.env).length=n:=by rfl)(hst:(assignEach es X.env).findIdx? (·.1)=none:=by rfl):PG X (.Tuple es k pos) (ajG K n t):=by
 subst hK;exact aoU hc h hn hst
theorem boot_any:bootBuiltins "any"=some (.builtin "any"):=by decide+kernel
theorem boot_all:bootBuiltins "all"=some (.builtin "all"):=by decide+kernel
theorem boot_sum:bootBuiltins "sum"=some (.builtin "sum"):=by decide+kernel
theorem boot_max:bootBuiltins "max"=some (.builtin "max"):=by decide+kernel
theorem boot_min:bootBuiltins "min"=some (.builtin "min"):=by decide+kernel
theorem boot_str:bootBuiltins "str"=some (.type "str"):=by decide+kernel
theorem boot_ord:bootBuiltins "ord"=some (.builtin "ord"):=by decide+kernel
theorem boot_int:bootBuiltins "int"=some (.type "int"):=by decide+kernel
theorem boot_dict:bootBuiltins "dict"=some (.type "dict"):=by decide+kernel
theorem fsc{N P:List Str}{sc:Scope}(a:sc.kind= .function:=by rfl)(b:sc.isCoroutine=false:=by rfl)(c:sc.isGenerator=false:=by rfl)(d:N.Nodup:=by decide+kernel)(e:N.take P.length=P:=by rfl)(f:∀x∈P,sc.names.lookup x=some .local\/sc.names.lookup x=some .cell:=by decide+kernel)(g:∀y∈sc.names,y.2≠ .free:=by decide+kernel):bQ N P sc:=⟨a,b,c,d,e,f,g⟩
abbrev Hf:Stmt:=inClass (top 15) 0
noncomputable abbrev ada:List Str:=["self","number","kind","metals"]
abbrev zR:List Str:=["self","number","kind","metals"]
theorem aaf:bQ ada zR (aX Hf):=fsc
abbrev zF:Stmt:=inClass (top 15) 1
noncomputable abbrev Sx:List Str:=["self","amounts","held","more"]
abbrev zT:List Str:=["self","amounts"]
theorem xj:bQ Sx zT (aX zF):=fsc
abbrev zE:Stmt:=inClass (top 15) 2
noncomputable abbrev Sv:List Str:=["self","amounts","held","less"]
abbrev zQ:List Str:=["self","amounts"]
theorem xg:bQ Sv zQ (aX zE):=fsc
abbrev qP:Stmt:=inClass (top 15) 3
noncomputable abbrev Gj:List Str:=["self","amounts","held","wanted"]
abbrev qT:List Str:=["self","amounts"]
theorem pK:bQ Gj qT (aX qP):=fsc
abbrev Kh:Stmt:=inClass (top 15) 4
abbrev afb:List Str:=["self"]
abbrev CZ:List Str:=["self"]
theorem abX:bQ afb CZ (aX Kh):=fsc
abbrev Kl:Stmt:=inClass (top 16) 0
noncomputable abbrev afc:List Str:=["self","source","target","amounts"]
abbrev Dc:List Str:=["self","source","target","amounts"]
theorem abY:bQ afc Dc (aX Kl):=fsc
abbrev qb:Stmt:=inClass (top 16) 1
abbrev Ml:List Str:=["self"]
abbrev lZ:List Str:=["self"]
theorem JK:bQ Ml lZ (aX qb):=fsc
abbrev DX:Stmt:=inClass (top 17) 0
noncomputable abbrev aaF:List Str:=["self","end","month"]
abbrev xx:List Str:=["self","end","month"]
theorem Xg:bQ aaF xx (aX DX):=fsc
abbrev Hg:Stmt:=inClass (top 18) 0
abbrev adb:List Str:=["self"]
abbrev zU:List Str:=["self"]
theorem aag:bQ adb zU (aX Hg):=fsc
abbrev tY:Stmt:=inClass (top 18) 1
noncomputable abbrev QD:List Str:=["self","rows","place"]
abbrev ou:List Str:=["self"]
theorem rA:bQ QD ou (aX tY):=fsc
abbrev Fl:Stmt:=top 27
noncomputable abbrev Uw:List Str:=["row","signs","sign","byte"]
abbrev M7:List Str:=["row"]
theorem wF:bQ Uw M7 (aX Fl):=fsc
abbrev GZ:Stmt:=top 28
noncomputable abbrev Zd:List Str:=["payload","word"]
abbrev Hk:List Str:=["payload"]
theorem Ka:bQ Zd Hk (aX GZ):=fsc
abbrev MT:Stmt:=top 29
abbrev abt:List Str:=["word","sign"]
abbrev M8:List Str:=["word"]
theorem PL:bQ abt M8 (aX MT):=fsc
abbrev zA:Stmt:=top 30
abbrev Sq:List Str:=["word","sign"]
abbrev zM:List Str:=["word"]
theorem DK:bQ Sq zM (aX zA):=fsc
abbrev Ay:Stmt:=top 33
noncomputable abbrev Ze:List Str:=["form","given","metals","parts","part"]
abbrev uX:List Str:=["form","given","metals"]
theorem yu:bQ Ze uX (aX Ay):=fsc
abbrev afX:Stmt:=top 34
abbrev apW:List Str:=["word","part"]
abbrev acn:List Str:=["word","part"]
theorem amU:bQ apW acn (aX afX):=fsc
abbrev zy:Stmt:=top 35
noncomputable abbrev Sh:List Str:=["command","words","metals","parts","word","part"]
abbrev zL:List Str:=["command","words","metals"]
theorem rJ:bQ Sh zL (aX zy):=fsc
abbrev uR:Stmt:=top 51
abbrev Mj:List Str:=["amounts","part"]
abbrev vo:List Str:=["amounts"]
theorem yx:bQ Mj vo (aX uR):=fsc
abbrev ab1:Stmt:=top 52
abbrev anV:List Str:=["record","source","target","amounts"]
abbrev Wc:List Str:=["record","source","target","amounts"]
theorem ak6:bQ anV Wc (aX ab1):=fsc
abbrev Tw:Stmt:=top 53
noncomputable abbrev aj6:List Str:=["books","record","arguments","name","rank"]
abbrev M9:List Str:=["books","record","arguments"]
theorem PN:bQ aj6 M9 (aX Tw):=fsc
abbrev Qa:Stmt:=top 54
noncomputable abbrev ag1:List Str:=["books","record","arguments","name"]
abbrev Hq:List Str:=["books","record","arguments"]
theorem U9:bQ ag1 Hq (aX Qa):=fsc
abbrev P0:Stmt:=top 55
abbrev ag0:List Str:=["books","record","arguments","name"]
abbrev Ho:List Str:=["books","record","arguments"]
theorem U8:bQ ag0 Ho (aX P0):=fsc
abbrev G9:Stmt:=top 56
noncomputable abbrev ac7:List Str:=["books","record","arguments","amounts","place"]
abbrev zN:List Str:=["books","record","arguments"]
theorem DN:bQ ac7 zN (aX G9):=fsc
abbrev M3:Stmt:=top 57
noncomputable abbrev abu:List Str:=["books","record","arguments","source","target","kilograms","held","shares","part"]
abbrev Ng:List Str:=["books","record","arguments"]
theorem tX:bQ abu Ng (aX M3):=fsc
abbrev Tz:Stmt:=top 58
noncomputable abbrev aj7:List Str:=["books","record","arguments","source","target","amounts"]
abbrev Nb:List Str:=["books","record","arguments"]
theorem GQ:bQ aj7 Nb (aX Tz):=fsc
abbrev TJ:Stmt:=top 59
noncomputable abbrev aj9:List Str:=["books","record","arguments","number","earlier","code"]
abbrev Nh:List Str:=["books","record","arguments"]
theorem GR:bQ aj9 Nh (aX TJ):=fsc
abbrev Qc:Stmt:=top 60
abbrev ag2:List Str:=["books","record","arguments"]
abbrev Hr:List Str:=["books","record","arguments"]
theorem adW:bQ ag2 Hr (aX Qc):=fsc
abbrev PX:Stmt:=top 61
noncomputable abbrev agZ:List Str:=["books","record","arguments","starts","cents"]
abbrev Bj:List Str:=["books","record","arguments"]
theorem Kd:bQ agZ Bj (aX PX):=fsc
abbrev TF:Stmt:=top 62
abbrev aj8:List Str:=["books","record","arguments"]
abbrev Nf:List Str:=["books","record","arguments"]
theorem afW:bQ aj8 Nf (aX TF):=fsc
abbrev Kf:Stmt:=top 64
abbrev ae9:List Str:=["books","words"]
abbrev CT:List Str:=["books","words"]
theorem abW:bQ ae9 CT (aX Kf):=fsc
abbrev zB:Stmt:=top 65
noncomputable abbrev Ss:List Str:=["books","record","payload","words","rank","arguments","word","act"]
abbrev oh:List Str:=["books","record","payload"]
theorem pF:bQ Ss oh (aX zB):=fsc
abbrev Ri:Stmt:=top 80
abbrev ae7:List Str:=["payload","place","byte"]
abbrev Rm:List Str:=["payload"]
theorem MP:bQ ae7 Rm (aX Ri):=fsc
abbrev CN:Stmt:=top 81
noncomputable abbrev Vo:List Str:=["number","count","digit"]
abbrev CW:List Str:=["number","count"]
theorem GX:bQ Vo CW (aX CN):=fsc
abbrev Tv:Stmt:=top 82
noncomputable abbrev aj5:List Str:=["payload","front","behind"]
abbrev M6:List Str:=["payload"]
theorem PK:bQ aj5 M6 (aX Tv):=fsc
abbrev sY:Stmt:=top 83
abbrev JF:List Str:=["row","byte"]
abbrev tu:List Str:=["row"]
theorem wG:bQ JF tu (aX sY):=fsc
abbrev Ke:Stmt:=top 84
noncomputable abbrev ae8:List Str:=["digits","number","byte"]
abbrev CQ:List Str:=["digits"]
theorem zx:bQ ae8 CQ (aX Ke):=fsc
abbrev Xh:Stmt:=top 85
noncomputable abbrev amr:List Str:=["taken","at","byte"]
abbrev Rn:List Str:=["taken","at","byte"]
theorem aiU:bQ amr Rn (aX Xh):=fsc
abbrev Kg:Stmt:=top 86
noncomputable abbrev afa:List Str:=["taken","begin","digits","length"]
abbrev CV:List Str:=["taken","begin"]
theorem GP:bQ afa CV (aX Kg):=fsc
abbrev G4:Stmt:=top 87
noncomputable abbrev ac4:List Str:=["taken","begin","length","sharp","end"]
abbrev zH:List Str:=["taken","begin"]
theorem xf:bQ ac4 zH (aX G4):=fsc
abbrev Bh:Stmt:=inClass (top 88) 0
abbrev Zr:List Str:=["self"]
abbrev vy:List Str:=["self"]
theorem VJ:bQ Zr vy (aX Bh):=fsc
abbrev Bg:Stmt:=inClass (top 88) 1
noncomputable abbrev Zq:List Str:=["self","row","codes","end"]
abbrev vq:List Str:=["self","row"]
theorem sX:bQ Zq vq (aX Bg):=fsc
abbrev rB:Stmt:=inClass (top 88) 2
noncomputable abbrev Om:List Str:=["self","end","sharp","payload","told_sum","record"]
abbrev mR:List Str:=["self","end"]
theorem jQ:bQ Om mR (aX rB):=fsc
abbrev G8:Stmt:=top 89
noncomputable abbrev ac6:List Str:=["row","journal"]
abbrev zK:List Str:=["row"]
theorem OD:bQ ac6 zK (aX G8):=fsc
abbrev G6:Stmt:=top 92
abbrev Zh:List Str:=["books","month","record"]
abbrev Hn:List Str:=["books","month"]
theorem Kc:bQ Zh Hn (aX G6):=fsc
abbrev ak7:Stmt:=top 93
noncomputable abbrev arU:List Str:=["move","kind","into","out"]
abbrev ahL:List Str:=["move","kind"]
theorem afV:bQ arU ahL (aX ak7):=fsc
abbrev G5:Stmt:=top 94
noncomputable abbrev Zg:List Str:=["books","month","kind","net","move","sign","total","part"]
abbrev Hm:List Str:=["books","month","kind"]
theorem p8:bQ Zg Hm (aX G5):=fsc
abbrev G3:Stmt:=top 95
noncomputable abbrev ac3:List Str:=["kilograms","scale","starts","ends","total","start","end","cents"]
abbrev zG:List Str:=["kilograms","scale"]
theorem kY:bQ ac3 zG (aX G3):=fsc
abbrev DP:Stmt:=top 97
abbrev aaB:List Str:=["name","place"]
abbrev xm:List Str:=["name","place"]
theorem Xe:bQ aaB xm (aX DP):=fsc
abbrev G7:Stmt:=top 98
abbrev ac5:List Str:=["move"]
abbrev zJ:List Str:=["move"]
theorem aad:bQ ac5 zJ (aX G7):=fsc
abbrev Az:Stmt:=top 99
abbrev Zf:List Str:=["record"]
abbrev uY:List Str:=["record"]
theorem VG:bQ Zf uY (aX Az):=fsc
abbrev rK:Stmt:=top 100
noncomputable abbrev Er:List Str:=["books","users","places","name","place","records","record"]
abbrev xq:List Str:=["books"]
theorem lq:bQ Er xq (aX rK):=fsc
abbrev PQ:Stmt:=top 101
abbrev agY:List Str:=["journal"]
abbrev Hl:List Str:=["journal"]
theorem adV:bQ agY Hl (aX PQ):=fsc
abbrev Km:Stmt:=inClass (top 115) 0
abbrev afd:List Str:=["self"]
abbrev Dd:List Str:=["self"]
theorem abZ:bQ afd Dd (aX Km):=fsc
abbrev pL:Stmt:=top 116
abbrev Ds:List Str:=["row","number"]
abbrev pN:List Str:=["row"]
theorem tW:bQ Ds pN (aX pL):=fsc
abbrev ab0:Stmt:=top 117
abbrev anU:List Str:=["is_so"]
abbrev Wb:List Str:=["is_so"]
theorem ak5:bQ anU Wb (aX ab0):=fsc
abbrev DR:Stmt:=top 118
noncomputable abbrev aaD:List Str:=["desk","row","journal","codes"]
abbrev xr:List Str:=["desk","row"]
theorem Ax:bQ aaD xr (aX DR):=fsc
abbrev Hd:Stmt:=top 119
abbrev ac9:List Str:=["desk","arguments","count"]
abbrev zP:List Str:=["desk","arguments"]
theorem OJ:bQ ac9 zP (aX Hd):=fsc
abbrev yC:Stmt:=top 120
noncomputable abbrev V3:List Str:=["desk","arguments","journal","taken","pending"]
abbrev tD:List Str:=["desk","arguments"]
theorem qO:bQ V3 tD (aX yC):=fsc
abbrev Bf:Stmt:=top 121
noncomputable abbrev Zo:List Str:=["desk","arguments","skipped","count"]
abbrev vm:List Str:=["desk","arguments"]
theorem yw:bQ Zo vm (aX Bf):=fsc
abbrev yD:Stmt:=top 122
noncomputable abbrev V4:List Str:=["desk","arguments","number","records","record","answer"]
abbrev tE:List Str:=["desk","arguments"]
theorem m8:bQ V4 tE (aX yD):=fsc
abbrev wI:Stmt:=top 123
abbrev Uy:List Str:=["desk","arguments"]
abbrev qR:List Str:=["desk","arguments"]
theorem Rh:bQ Uy qR (aX wI):=fsc
abbrev DQ:Stmt:=top 124
abbrev aaC:List Str:=["desk","row"]
abbrev xn:List Str:=["desk","row"]
theorem Xf:bQ aaC xn (aX DQ):=fsc
abbrev Bc:Stmt:=top 125
abbrev Zk:List Str:=["desk","row","place"]
abbrev vf:List Str:=["desk","row"]
theorem Jq:bQ Zk vf (aX Bc):=fsc
abbrev DW:Stmt:=top 126
noncomputable abbrev aaE:List Str:=["desk","arguments","count","journal","end","books"]
abbrev xu:List Str:=["desk","arguments"]
theorem m9:bQ aaE xu (aX DW):=fsc
abbrev yz:Stmt:=top 127
abbrev V2:List Str:=["desk","month"]
abbrev sZ:List Str:=["desk","month"]
theorem Tu:bQ V2 sZ (aX yz):=fsc
abbrev Bd:Stmt:=top 128
noncomputable abbrev Zm:List Str:=["desk","arguments","month","refusal","answer","kind"]
abbrev vg:List Str:=["desk","arguments"]
theorem oM:bQ Zm vg (aX Bd):=fsc
abbrev wH:Stmt:=top 129
noncomputable abbrev Ux:List Str:=["desk","arguments","month","refusal","books","kilograms"]
abbrev qQ:List Str:=["desk","arguments"]
theorem lY:bQ Ux qQ (aX wH):=fsc
abbrev uP:Stmt:=top 130
noncomputable abbrev Mi:List Str:=["desk","arguments","users","answer","name","rank","sign"]
abbrev u9:List Str:=["desk","arguments"]
theorem j9:bQ Mi u9 (aX uP):=fsc
abbrev Hc:Stmt:=top 131
abbrev ac8:List Str:=["desk","row"]
abbrev zO:List Str:=["desk","row"]
theorem aae:bQ ac8 zO (aX Hc):=fsc
abbrev Ba:Stmt:=top 132
abbrev Zi:List Str:=["desk","row"]
abbrev uZ:List Str:=["desk","row"]
theorem VH:bQ Zi uZ (aX Ba):=fsc
abbrev uQ:Stmt:=top 133
noncomputable abbrev Su:List Str:=["desk","arguments","answer","number","record"]
abbrev pO:List Str:=["desk","arguments"]
theorem nU:bQ Su pO (aX uQ):=fsc
abbrev Bb:Stmt:=top 134
noncomputable abbrev Zj:List Str:=["desk","row","place","answer","number","record","is_target"]
abbrev vd:List Str:=["desk","row"]
theorem lO:bQ Zj vd (aX Bb):=fsc
abbrev Be:Stmt:=top 135
noncomputable abbrev Zn:List Str:=["desk","arguments","fresh"]
abbrev vh:List Str:=["desk","arguments"]
theorem Jr:bQ Zn vh (aX Be):=fsc
abbrev M4:Stmt:=top 139
noncomputable abbrev aka:List Str:=["calls","desk","told","at","number","count","answerer","answer"]
abbrev Fq:List Str:=["calls"]
theorem jb:bQ aka Fq (aX M4):=fsc
set_option genInjectivity false in
set_option genSizeOf false in
structure uw where
 fW:Addr
 ue:Addr
 cX:Addr
 gh:Addr
 dD:Addr
 mJ:Addr
 HW:Addr
 sG:FuncData
 HX:Addr
 sH:FuncData
 HS:Addr
 sE:FuncData
 wL:Addr
 mz:FuncData
 Lg:Addr
 vI:FuncData
 Lh:Addr
 vJ:FuncData
 qG:Addr
 jH:FuncData
 Eg:Addr
 qu:FuncData
 HY:Addr
 sI:FuncData
 uc:Addr
 kI:FuncData
 Ug:Addr
 Bq:FuncData
 Qm:Addr
 yd:FuncData
 Uh:Addr
 Br:FuncData
 HJ:Addr
 rY:FuncData
 Bx:Addr
 oO:FuncData
 agJ:Addr
 RT:FuncData
 HH:Addr
 rW:FuncData
 BL:Addr
 ph:FuncData
 acO:Addr
 La:FuncData
 Nr:Addr
 Bs:FuncData
 HQ:Addr
 yj:FuncData
 HN:Addr
 yh:FuncData
 zX:Addr
 rZ:FuncData
 Nv:Addr
 Bv:FuncData
 Nt:Addr
 Bt:FuncData
 Ny:Addr
 Bw:FuncData
 HR:Addr
 yl:FuncData
 BK:Addr
 uq:FuncData
 Nu:Addr
 Bu:FuncData
 Ld:Addr
 vD:FuncData
 qU:Addr
 lg:FuncData
 YL:Addr
 Ge:FuncData
 Lf:Addr
 vH:FuncData
 Ue:Addr
 Bp:FuncData
 yK:Addr
 nG:FuncData
 Lb:Addr
 vC:FuncData
 YM:Addr
 Gf:FuncData
 Le:Addr
 vG:FuncData
 HB:Addr
 rR:FuncData
 BR:Addr
 pA:FuncData
 BP:Addr
 pq:FuncData
 rD:Addr
 jT:FuncData
 HF:Addr
 rU:FuncData
 Qp:Addr
 yg:FuncData
 amd:Addr
 YK:FuncData
 Qo:Addr
 yf:FuncData
 Hz:Addr
 rQ:FuncData
 Ec:Addr
 qj:FuncData
 HD:Addr
 rT:FuncData
 BJ:Addr
 oR:FuncData
 Ef:Addr
 qm:FuncData
 Qn:Addr
 ye:FuncData
 Li:Addr
 vK:FuncData
 vL:Addr
 lB:FuncData
 acN:Addr
 K9:FuncData
 sJ:Addr
 qp:FuncData
 vN:Addr
 su:FuncData
 pB:Addr
 nJ:FuncData
 qF:Addr
 o9:FuncData
 pC:Addr
 nM:FuncData
 nP:Addr
 my:FuncData
 Ed:Addr
 ql:FuncData
 qz:Addr
 oX:FuncData
 sO:Addr
 qt:FuncData
 yJ:Addr
 nF:FuncData
 qC:Addr
 oY:FuncData
 nO:Addr
 mq:FuncData
 qx:Addr
 oV:FuncData
 vM:Addr
 sr:FuncData
 qw:Addr
 oU:FuncData
 mC:Addr
 lC:FuncData
 qy:Addr
 oW:FuncData
 qD:Addr
 oZ:FuncData
 Nz:Addr
 t8:FuncData
 Wl:Addr
 ac1:Addr
 Iz:Addr
 Eo:Addr
 En:Addr
 IV:Addr
 Ja:Addr
 IK:Addr
 Jb:Addr
 Ep:Addr
 Em:Addr
 IW:Addr
 Ma:Addr
 Mg:Addr
 Mf:Addr
 LR:Addr
 LQ:Addr
 ail:Addr
 Zb:Addr
 Vn:Addr
 Dq:Addr
 aik:Addr
structure Txt(P:Program)(w:World)(K:az)(mg:Str->Option Value)(A:uw):Prop where
 d7:Cls K A.fW
 alw:Mk K A.fW A.HW
 anF:mg "Place"=some (.ref A.fW)
 fO:iK K A.fW "number"
 iH:iK K A.fW "kind"
 tH:iK K A.fW "opened"
 gJ:iK K A.fW "amounts"
 mG:Cls K A.ue
 ang:Mk K A.ue A.Lh
 apy:mg "Move"=some (.ref A.ue)
 lA:iK K A.ue "source"
 lu:iK K A.ue "target"
 lQ:iK K A.ue "amounts"
 dg:Cls K A.cX
 ajf:Mk K A.cX A.Eg
 al4:mg "Record"=some (.ref A.cX)
 xG:iK K A.cX "end"
 tG:iK K A.cX "month"
 qi:iK K A.cX "user"
 lr:iK K A.cX "code"
 jf:iK K A.cX "taken_back"
 d9:iK K A.cX "move"
 cN:Cls K A.gh
 alx:Mk K A.gh A.HY
 anG:mg "Books"=some (.ref A.gh)
 jq:iK K A.gh "users"
 jt:iK K A.gh "metals"
 fG:iK K A.gh "places"
 jR:iK K A.gh "month"
 vA:iK K A.gh "scale"
 fD:iK K A.gh "records"
 bR:Cls K A.dD
 X7:Mk K A.dD A.BR
 abb:mg "Journal"=some (.ref A.dD)
 eN:iK K A.dD "taken"
 ie:iK K A.dD "settled"
 jo:iK K A.dD "broken"
 cI:iK K A.dD "books"
 mH:Cls K A.mJ
 anh:Mk K A.mJ A.Li
 apz:mg "Desk"=some (.ref A.mJ)
 cV:iK K A.mJ "journal"
 aar:A.fW≠A.ue
 Jw:A.fW≠A.cX
 Kz:A.fW≠A.gh
 ajc:A.fW≠A.dD
 amv:A.fW≠A.mJ
 Bk:A.ue≠A.cX
 aas:A.ue≠A.gh
 akl:A.ue≠A.dD
 ane:A.ue≠A.mJ
 Jv:A.cX≠A.gh
 ahR:A.cX≠A.dD
 alo:A.cX≠A.mJ
 ajd:A.gh≠A.dD
 amw:A.gh≠A.mJ
 VP:A.dD≠A.mJ
 Gz:nQ K "__init__" "Place.__init__" Hf A.HW A.sG
 Iu:Binds K A.sG zR []
 GC:nQ K "gain" "Place.gain" zF A.HX A.sH
 Aa:Binds K A.sH zT []
 O7:Meth K A.fW "gain" A.HX
 Gy:nQ K "lose" "Place.lose" zE A.HS A.sE
 Ir:Binds K A.sE zQ []
 aat:Meth K A.fW "lose" A.HS
 wC:nQ K "has_less" "Place.has_less" qP A.wL A.mz
 wQ:Binds K A.mz qT []
 Ru:Meth K A.fW "has_less" A.wL
 J6:nQ K "row" "Place.row" Kh A.Lg A.vI
 Dn:Binds K A.vI CZ []
 Rt:Meth K A.fW "row" A.Lg
 J7:nQ K "__init__" "Move.__init__" Kl A.Lh A.vJ
 LC:Binds K A.vJ Dc []
 pZ:nQ K "place_numbers" "Move.place_numbers" qb A.qG A.jH
 qH:Binds K A.jH lZ []
 JM:Meth K A.ue "place_numbers" A.qG
 DG:nQ K "__init__" "Record.__init__" DX A.Eg A.qu
 El:Binds K A.qu xx []
 GD:nQ K "__init__" "Books.__init__" Hg A.HY A.sI
 Iv:Binds K A.sI zU []
 tU:nQ K "place_rows" "Books.place_rows" tY A.uc A.kI
 lD:Binds K A.kI ou []
 rC:Meth K A.gh "place_rows" A.uc
 Fg:nQ K "text_of" "text_of" Fl A.Ug A.Bq
 N5:Binds K A.Bq M7 []
 aba:mg "text_of"=some (.ref A.Ug)
 Gr:nQ K "words_of" "words_of" GZ A.Qm A.yd
 Qu:Binds K A.yd Hk []
 agy:mg "words_of"=some (.ref A.Qm)
 Mv:nQ K "is_name" "is_name" MT A.Uh A.Br
 Uq:Binds K A.Br M8 []
 ajD:mg "is_name"=some (.ref A.Uh)
 uG:nQ K "is_numeral" "is_numeral" zA A.HJ A.rY
 zZ:Binds K A.rY zM []
 RQ:mg "is_numeral"=some (.ref A.HJ)
 uD:nQ K "wanted_parts" "wanted_parts" Ay A.Bx A.oO
 BW:Binds K A.oO uX []
 Yz:mg "wanted_parts"=some (.ref A.Bx)
 abA:nQ K "fits" "fits" afX A.agJ A.RT
 agU:Binds K A.RT acn []
 apt:mg "fits"=some (.ref A.agJ)
 zm:nQ K "is_of_form" "is_of_form" zy A.HH A.rW
 Ik:Binds K A.rW zL []
 acK:mg "is_of_form"=some (.ref A.HH)
 pY:nQ K "above_limits" "above_limits" uR A.BL A.ph
 vQ:Binds K A.ph vo []
 K7:mg "above_limits"=some (.ref A.BL)
 MJ:nQ K "carry" "carry" ab1 A.acO A.La
 R8:Binds K A.La Wc []
 acM:mg "carry"=some (.ref A.acO)
 Mw:nQ K "do_user" "do_user" Tw A.Nr A.Bs
 Ur:Binds K A.Bs M9 []
 aqj:mg "do_user"=some (.ref A.Nr)
 Gw:nQ K "do_metal" "do_metal" Qa A.HQ A.yj
 Qy:Binds K A.yj Hq []
 apw:mg "do_metal"=some (.ref A.HQ)
 Gv:nQ K "do_place" "do_place" P0 A.HN A.yh
 Qx:Binds K A.yh Ho []
 apv:mg "do_place"=some (.ref A.HN)
 zq:nQ K "do_opening" "do_opening" G9 A.zX A.rZ
 Im:Binds K A.rZ zN []
 anB:mg "do_opening"=some (.ref A.zX)
 Mz:nQ K "do_move" "do_move" M3 A.Nv A.Bv
 Uu:Binds K A.Bv Ng []
 aqm:mg "do_move"=some (.ref A.Nv)
 Mx:nQ K "do_ship" "do_ship" Tz A.Nt A.Bt
 Us:Binds K A.Bt Nb []
 aqk:mg "do_ship"=some (.ref A.Nt)
 MF:nQ K "do_back" "do_back" TJ A.Ny A.Bw
 Uv:Binds K A.Bw Nh []
 aqn:mg "do_back"=some (.ref A.Ny)
 Gx:nQ K "do_close" "do_close" Qc A.HR A.yl
 Qz:Binds K A.yl Hr []
 apx:mg "do_close"=some (.ref A.HR)
 Gu:nQ K "do_scale" "do_scale" PX A.BK A.uq
 Qw:Binds K A.uq Bj []
 apu:mg "do_scale"=some (.ref A.BK)
 My:nQ K "do_note" "do_note" TF A.Nu A.Bu
 Ut:Binds K A.Bu Nf []
 aql:mg "do_note"=some (.ref A.Nu)
 CG:nQ K "may_speak" "may_speak" Kf A.Ld A.vD
 Lx:Binds K A.vD CT []
 aeU:mg "may_speak"=some (.ref A.Ld)
 zp:nQ K "do_payload" "do_payload" zB A.qU A.lg
 Il:Binds K A.lg oh []
 acL:mg "do_payload"=some (.ref A.qU)
 Fi:nQ K "sum_of" "sum_of" Ri A.YL A.Ge
 Lw:Binds K A.Ge Rm []
 YB:mg "sum_of"=some (.ref A.YL)
 xW:nQ K "digits_of" "digits_of" CN A.Lf A.vH
 Dl:Binds K A.vH CW []
 Vk:mg "digits_of"=some (.ref A.Lf)
 Mu:nQ K "written" "written" Tv A.Ue A.Bp
 Up:Binds K A.Bp M6 []
 ajC:mg "written"=some (.ref A.Ue)
 oJ:nQ K "may_be_digits" "may_be_digits" sY A.yK A.nG
 tM:Binds K A.nG tu []
 JB:mg "may_be_digits"=some (.ref A.yK)
 xV:nQ K "number_of" "number_of" Ke A.Lb A.vC
 Dk:Binds K A.vC CQ []
 Vj:mg "number_of"=some (.ref A.Lb)
 Fj:nQ K "may_be" "may_be" Xh A.YM A.Gf
 Ly:Binds K A.Gf Rn []
 YG:mg "may_be"=some (.ref A.YM)
 CJ:nQ K "length_at" "length_at" Kg A.Le A.vG
 Lz:Binds K A.vG CV []
 aeV:mg "length_at"=some (.ref A.Le)
 uF:nQ K "record_end" "record_end" G4 A.HB A.rR
 zY:Binds K A.rR zH []
 RP:mg "record_end"=some (.ref A.HB)
 Aw:nQ K "__init__" "Journal.__init__" Bh A.BR A.pA
 vU:Binds K A.pA vy []
 Av:nQ K "take" "Journal.take" Bg A.BP A.pq
 vR:Binds K A.pq vq []
 Jx:Meth K A.dD "take" A.BP
 rn:nQ K "do_record" "Journal.do_record" rB A.rD A.jT
 rE:Binds K A.jT mR []
 KH:Meth K A.dD "do_record" A.rD
 nR:nQ K "journal_of" "journal_of" G8 A.HF A.rU
 qW:Binds K A.rU zK []
 zW:mg "journal_of"=some (.ref A.HF)
 Gs:nQ K "moves_of" "moves_of" G6 A.Qp A.yg
 Qv:Binds K A.yg Hn []
 agz:mg "moves_of"=some (.ref A.Qp)
 ahs:nQ K "way" "way" ak7 A.amd A.YK
 aml:Binds K A.YK ahL []
 arA:mg "way"=some (.ref A.amd)
 Ar:nQ K "net_into" "net_into" G5 A.Qo A.yf
 Ii:Binds K A.yf Hm []
 YF:mg "net_into"=some (.ref A.Qo)
 zg:nQ K "royalty_on" "royalty_on" G3 A.Hz A.rQ
 Ih:Binds K A.rQ zG []
 acI:mg "royalty_on"=some (.ref A.Hz)
 wU:nQ K "place_state" "place_state" DP A.Ec A.qj
 Eh:Binds K A.qj xm []
 aay:mg "place_state"=some (.ref A.Ec)
 zj:nQ K "move_state" "move_state" G7 A.HD A.rT
 Ij:Binds K A.rT zJ []
 acJ:mg "move_state"=some (.ref A.HD)
 uE:nQ K "record_state" "record_state" Az A.BJ A.oR
 BX:Binds K A.oR uY []
 YD:mg "record_state"=some (.ref A.BJ)
 wW:nQ K "books_state" "books_state" rK A.Ef A.qm
 Ei:Binds K A.qm xq []
 aaz:mg "books_state"=some (.ref A.Ef)
 Aq:nQ K "state_of" "state_of" PQ A.Qn A.ye
 Ig:Binds K A.ye Hl []
 YC:mg "state_of"=some (.ref A.Qn)
 J8:nQ K "__init__" "Desk.__init__" Km A.Li A.vK
 LK:Binds K A.vK Dd []
 iB:nQ K "is_row_of_bytes" "is_row_of_bytes" pL A.vL A.lB
 jr:Binds K A.lB pN []
 mj:mg "is_row_of_bytes"=some (.ref A.vL)
 zf:nQ K "truth" "truth" ab0 A.acN A.K9
 Dj:Binds K A.K9 Wb []
 Nm:mg "truth"=some (.ref A.acN)
 wX:nQ K "answer_feed" "answer_feed" DR A.sJ A.qp
 Ej:Binds K A.qp xr []
 amA:mg "answer_feed"=some (.ref A.sJ)
 zu:nQ K "answer_cut" "answer_cut" Hd A.vN A.su
 Ip:Binds K A.su zP []
 anE:mg "answer_cut"=some (.ref A.vN)
 sV:nQ K "answer_status" "answer_status" yC A.pB A.nJ
 yL:Binds K A.nJ tD []
 akr:mg "answer_status"=some (.ref A.pB)
 uN:nQ K "answer_bytes" "answer_bytes" Bf A.qF A.o9
 Cj:Binds K A.o9 vm []
 al3:mg "answer_bytes"=some (.ref A.qF)
 sW:nQ K "answer_record" "answer_record" yD A.pC A.nM
 yM:Binds K A.nM tE []
 aks:mg "answer_record"=some (.ref A.pC)
 qN:nQ K "answer_balance" "answer_balance" wI A.nP A.my
 wO:Binds K A.my qR []
 ajF:mg "answer_balance"=some (.ref A.nP)
 rH:nQ K "place_named" "place_named" DQ A.Ed A.ql
 xH:Binds K A.ql xn []
 Pa:mg "place_named"=some (.ref A.Ed)
 uK:nQ K "answer_place" "answer_place" Bc A.qz A.oX
 Ce:Binds K A.oX vf []
 al0:mg "answer_place"=some (.ref A.qz)
 wY:nQ K "answer_asof" "answer_asof" DW A.sO A.qt
 Ek:Binds K A.qt xu []
 amB:mg "answer_asof"=some (.ref A.sO)
 oH:nQ K "month_refusal" "month_refusal" yz A.yJ A.nF
 tL:Binds K A.nF sZ []
 Jz:mg "month_refusal"=some (.ref A.yJ)
 uL:nQ K "answer_month" "answer_month" Bd A.qC A.oY
 Cg:Binds K A.oY vg []
 al1:mg "answer_month"=some (.ref A.qC)
 qM:nQ K "answer_royalty" "answer_royalty" wH A.nO A.mq
 wN:Binds K A.mq qQ []
 ajE:mg "answer_royalty"=some (.ref A.nO)
 uI:nQ K "answer_users" "answer_users" uP A.qx A.oV
 Ca:Binds K A.oV u9 []
 alY:mg "answer_users"=some (.ref A.qx)
 zr:nQ K "answer_sum" "answer_sum" Hc A.vM A.sr
 Io:Binds K A.sr zO []
 anD:mg "answer_sum"=some (.ref A.vM)
 uH:nQ K "answer_write" "answer_write" Ba A.qw A.oU
 BZ:Binds K A.oU uZ []
 alX:mg "answer_write"=some (.ref A.qw)
 pJ:nQ K "answer_standing" "answer_standing" uQ A.mC A.lC
 vP:Binds K A.lC pO []
 ah4:mg "answer_standing"=some (.ref A.mC)
 uJ:nQ K "answer_trail" "answer_trail" Bb A.qy A.oW
 Cd:Binds K A.oW vd []
 alZ:mg "answer_trail"=some (.ref A.qy)
 uM:nQ K "answer_check" "answer_check" Be A.qD A.oZ
 Ci:Binds K A.oZ vh []
 al2:mg "answer_check"=some (.ref A.qD)
 MK:nQ K "answers" "answers" M4 A.Nz A.t8
 abp:Binds K A.t8 Fq []
 Ud:mg "answers"=some (.ref A.Nz)
 Bo:GV mg "DONE" (.int 0)
 aeC:GV mg "WRONG_SUM" (.int 1)
 Rx:GV mg "WRONG_FORM" (.int 2)
 ajr:GV mg "NO_USER" (.int 3)
 ags:GV mg "LOW_RANK" (.int 4)
 vB:GV mg "TOLD_ALREADY" (.int 5)
 Hv:GV mg "NO_PLACE" (.int 6)
 Ua:GV mg "NO_ROOM" (.int 7)
 Ry:GV mg "TOO_LITTLE" (.int 8)
 zV:GV mg "WRONG_KIND" (.int 9)
 kh:GV mg "OUT_OF_LIMITS" (.int 10)
 Ub:GV mg "NOT_NOW" (.int 11)
 acB:GV mg "OWN_RECORD" (.int 12)
 acF:GV mg "KINDS" (.ref A.Wl)
 V7:KT K A.Wl [.str "ground",.str "pile",.str "plant",.str "waste",.str "sold"]
 Uc:GV mg "LETTERS" (.str "abcdefghijklmnopqrstuvwxyz")
 Yr:GV mg "DIGITS" (.str "0123456789")
 O9:GV mg "BLANK_words" (.str " ")
 aeE:GV mg "NOBODY" (.str "-")
 ajq:GV mg "STRANGE" (.str "?")
 aav:GV mg "NAME_LENGTH" (.int 8)
 T9:GV mg "NUMERAL_LENGTH" (.int 19)
 ahX:GV mg "FORMS" (.ref A.ac1)
 abE:KT K A.Iz [.str "name",.str "numeral"]
 ZW:KT K A.Eo [.str "name"]
 ZV:KT K A.En [.str "name",.str "kind"]
 abG:KT K A.IV [.str "name",.str "numeral",.str "each metal"]
 abI:KT K A.Ja [.str "name",.str "name",.str "numeral"]
 abF:KT K A.IK [.str "name",.str "name",.str "numeral",.str "each metal"]
 abJ:KT K A.Jb [.str "numeral"]
 ZX:KT K A.Ep []
 ZS:KT K A.Em [.str "pairs"]
 abH:KT K A.IW [.str "anything"]
 anO:KD P w K A.ac1 [(.inr "user",.ref A.Iz),(.inr "metal",.ref A.Eo),(.inr "place",.ref A.En),(.inr "open",.ref A.IV),(.inr "move",.ref A.Ja),(.inr "ship",.ref A.IK),(.inr "back",.ref A.Jb),(.inr "close",.ref A.Ep),(.inr "scale",.ref A.Em),(.inr "note",.ref A.IW)]
 acC:GV mg "MOST_USERS" (.int 8)
 aax:GV mg "MOST_METALS" (.int 2)
 aaw:GV mg "MOST_PLACES" (.int 12)
 Yj:GV mg "TOP_RANK" (.int 3)
 wJ:GV mg "MOST_KILOGRAMS" (.int 1000000000000)
 RB:GV mg "MOST_MICROGRAMS" (.int 1000000000000000000)
 JN:GV mg "MOST_SCALE_NUMERALS" (.int 12)
 acD:GV mg "MOST_CENTS" (.int 1000000000)
 Ym:GV mg "OPENED_KINDS" (.ref A.Ma)
 WY:KT K A.Ma [.str "ground",.str "pile"]
 Yo:GV mg "MOVE_SOURCES" (.ref A.Mg)
 W2:KT K A.Mg [.str "ground",.str "pile"]
 Yn:GV mg "MOVE_TARGETS" (.ref A.Mf)
 W0:KT K A.Mf [.str "pile",.str "plant",.str "waste"]
 Yl:GV mg "SHIP_SOURCES" (.ref A.LR)
 WX:KT K A.LR [.str "plant"]
 Yk:GV mg "SHIP_TARGETS" (.ref A.LQ)
 WW:KT K A.LQ [.str "waste",.str "sold"]
 anp:GV mg "RANKS" (.ref A.ail)
 anN:KD P w K A.ail [(.inr "user",.int 3),(.inr "metal",.int 2),(.inr "place",.int 2),(.inr "open",.int 2),(.inr "back",.int 2),(.inr "close",.int 3),(.inr "scale",.int 3)]
 agt:GV mg "COMMANDS" (.ref A.Zb)
 agN:KD P w K A.Zb [(.inr "user",.ref A.Nr),(.inr "metal",.ref A.HQ),(.inr "place",.ref A.HN),(.inr "open",.ref A.zX),(.inr "move",.ref A.Nv),(.inr "ship",.ref A.Nt),(.inr "back",.ref A.Ny),(.inr "close",.ref A.HR),(.inr "scale",.ref A.BK),(.inr "note",.ref A.Nu)]
 Jy:GV mg "BLANK_journal" (.int 32)
 ahW:GV mg "SHARP" (.int 35)
 Yp:GV mg "LINE_END" (.int 10)
 alD:GV mg "ZERO" (.int 48)
 apc:GV mg "NINE" (.int 57)
 tK:GV mg "LENGTH_DIGITS" (.int 6)
 Hu:GV mg "SUM_DIGITS" (.int 5)
 FW:GV mg "BEFORE_PAYLOAD" (.int 7)
 FT:GV mg "BEHIND_PAYLOAD" (.int 7)
 Dg:GV mg "LONGEST_PAYLOAD" (.int 200)
 aau:GV mg "SUM_MODULUS" (.int 65521)
 T8:GV mg "PENDING" (.int 0)
 FQ:GV mg "BROKEN" (.int (-1))
 Oh:GV mg "KILOGRAMS_A_TONNE" (.int 1000)
 iI:GV mg "OUT_OF_RANGE" (.int (-1))
 aeF:GV mg "IS_BROKEN" (.int (-2))
 agr:GV mg "TOO_LONG" (.int (-3))
 aeD:GV mg "TOO_SHORT" (.int (-4))
 FP:GV mg "NO_SUCH_RECORD" (.int (-5))
 yI:GV mg "NO_SUCH_PLACE" (.int (-6))
 ajs:GV mg "NOT_YET" (.int (-7))
 Hw:GV mg "MOST_BYTES" (.int 6000)
 Qk:GV mg "MOST_BYTES_SHOWN" (.int 1000)
 K5:GV mg "MOST_RECORDS" (.int 1000)
 acE:GV mg "LAST_MONTH" (.int 1000)
 Yq:GV mg "HIGHEST_BYTE" (.int 255)
 Vh:GV mg "ANSWERERS" (.ref A.Vn)
 U4:KT K A.Vn [.ref A.sJ,.ref A.vN,.ref A.pB,.ref A.qF,.ref A.pC,.ref A.nP,.ref A.qz,.ref A.sO,.ref A.qC,.ref A.nO,.ref A.qx,.ref A.vM,.ref A.qw,.ref A.mC,.ref A.qy,.ref A.qD]
 Rz:GV mg "PLAIN_ARGUMENTS" (.ref A.Dq)
 Q7:KT K A.Dq [.int 0,.int 1,.int 0,.int 2,.int 1,.int 0,.int 0,.int 1,.int 1,.int 1,.int 0,.int 0,.int 0,.int 0,.int 0,.int 0]
 ano:GV mg "ROWED" (.ref A.aik)
 amH:KT K A.aik [.int 0,.int 6,.int 11,.int 12,.int 14]
 jG:mg "len"=none
 aoe:mg "any"=none
 aev:mg "all"=none
 aa1:mg "zip"=none
 KC:mg "enumerate"=none
 aqX:mg "sum"=none
 ahS:mg "max"=none
 alq:mg "sorted"=none
 aqZ:mg "set"=none
 aq1:mg "int"=none
 alr:mg "ord"=none
 ao3:mg "dict"=none
 aq0:mg "min"=none
 aqY:mg "str"=none
 ao2:mg "list"=none
theorem lL{X:Cx}{pos:Pos}(i:Nat){x:Str}{e:Expr}{te:TE}{pos':Pos}(hN:X.N.Nodup)(he:PE X e te)(hi:X.N[i]? =some x:=by rfl)(hx:Loc X.env.scope x:=by first | exact dZ rfl | exact gF rfl)(hs:swapsWith e (some (.Name x pos')) pos.line X.env=pure false:=by rfl)(hf:X.fn x=true\/X.env.scope.names.lookup x=some .local:=by first | exact .inl rfl | exact .inr rfl | assumption):PS X (.Assign [.Name x pos'] e pos) (aoF te (wz i)):=aoR hN hi hx he hs hf
def Run(X:Cx)(r:List Stmt):TS:=λD σ H=>∃t,PSs X r t/\t D σ H
theorem bw{X:Cx}{st:Stmt}{r:List Stmt}{t:TS}(h:PS X st t):PSs X (st::r) (aqw t (Run X r)):=aL h λpins s σ H D I ⟨_,h,q⟩=>h pins s σ H D I q
theorem cz{X:Cx}{r:List Stmt}{t:TS}{D:Ends}{σ:St}{H:Hp}(h:PSs X r t)(q:t D σ H):Run X r D σ H:=⟨t,h,q⟩
class KQ where
 q:V->Hp->Prop
def hold[k:KQ](v:V)(H:Hp):Prop:=k.q v H
theorem asq{Q:V->Hp->Prop}{v:V}{H:Hp}: @hold ⟨Q⟩ v H=Q v H:=rfl
def aqA(t:TE):TE:=λσ H Q=>t σ H (@hold ⟨Q⟩)
theorem hld{X:Cx}{e:Expr}{t:TE}(h:PE X e t):PE X e (aqA t):=h
theorem _root_.L2.bh.new{H:Hp}{D:Addr}{o:HO}(h:H D=none):bh H (upd H D o):=λb u e=>by
 rw [aF (fK e h)];exact e
theorem _root_.L2.bh.X5{H H1:Hp}{D:Addr}{o:HO}(s:bh H H1)(h:H1 D=none):bh H (upd H1 D o):=s.trans (bh.new h)
theorem _root_.L2.bh.put{H H1:Hp}{D:Addr}{o:HO}(s:bh H H1)(h:H D=none):bh H (upd H1 D o):=λb u e=>by
 rw [aF (fK e h)];exact s b u e
theorem _root_.L2.bh.tup{K:az}{H H':Hp}{a:Addr}{xs:List V}(e:bh H H')(h:Ol K H a xs):Ol K H' a xs:=by
 rcases h with (h | ⟨o,h⟩) | h
 ·exact .inl (.inl (e _ _ h))
 ·exact .inl (.inr ⟨o,e _ _ h⟩)
 ·exact .inr h
theorem an0(σ:St)(j:Nat):wipe σ [j]=σ.set j none:=rfl
theorem Mt(σ:St)(j:Nat)(v:Option V):wipe ((wipe σ [j]).set j v) [j]=wipe σ [j]:=by
 rw [an0,an0,Dz,Dz]
theorem anZ(σ:St)(i j:Nat):wipe σ [i,j]=(σ.set j none).set i none:=rfl
theorem Tf(σ:St)(i j:Nat)(h:i≠j)(u v:Option V):wipe (((wipe σ [i,j]).set i u).set j v) [i,j]=wipe σ [i,j]:=by
 have e1:∀(l:St) (p q:Option V),(l.set i p).set j q=(l.set j q).set i p:=λl p q=>List.set_comm _ _ h;rw [anZ,anZ,Dz,e1,Dz,e1 _ none none,Dz,Dz]
theorem axy{CX P w K mg base N q sc f cd A o s H E}:(Y0 CX P w K mg base N q sc f cd A o s H E).K=K:=rfl
theorem asF{CX P w K mg base N q sc f cd A o s H E}:(Y0 CX P w K mg base N q sc f cd A o s H E).prog=P:=rfl
theorem axx{CX P w K mg base N q sc f cd A o s H E}:(Y0 CX P w K mg base N q sc f cd A o s H E).w=w:=rfl
theorem avx{CX P w K mg base N q sc f cd A o s H E}:(Y0 CX P w K mg base N q sc f cd A o s H E).mg=mg:=rfl
theorem asG{CX P w K mg base N q sc f cd A o s H E}:(Y0 CX P w K mg base N q sc f cd A o s H E).base=base:=rfl
section
variable {K:az} {a b:Addr} {xs ys:List V} {te:TE} {tt:TT} {j j1 j2:Nat} {σ:St} {H1:Hp} {Q:Addr->Hp->Prop}
theorem take_succ{α:Type}{l:List α}{i:Nat}{x:α}(h:l[i]? =some x):l.take (i+1)=l.take i++[x]:=by
 rw [List.take_add_one,h];rfl
theorem Ye(p:V->Bool)(g:V->V)(hs:cY K H1 a xs)(hz:xs.length<=sizeLine)(ht:∀(i:Nat) (x:V) (H:Hp) (R:Bool->Hp->Prop),xs[i]? =some x->bh H1 H->(∀H',bh H H'->R (p x) H')->tt ((wipe σ [j]).set j (some x)) H R)(he:∀(i:Nat) (x:V) (H:Hp) (R:VK),xs[i]? =some x->p x=true->bh H1 H->(∀H',bh H H'->R (g x) H')->te ((wipe σ [j]).set j (some x)) H R)(hQ:∀D H',H1 D=none->bh H1 H'->H' D=some (.lst ((xs.filter p).map g))->Q D H'):
  ∀D,H1 D=none->∃W:Nat->Nat->Hp->Prop,(∃m,W 0 m (upd H1 D (.lst [])))/\∀i m H,W i m H->
   ((Itl K a).stop i H/\Q D H)\/((Itl K a).go i H/\∃Nx:Hp->Prop,(∀H',Nx H'->∃m',m'<m/\W (i+1) m' H')/\∀x H',(Itl K a).yld i H x H'->wz j x (wipe σ [j]) H' λσ2 H2=>wipe σ2 [j]=wipe σ [j]/\tt σ2 H2 λb H3=>
    if b=true then te σ2 H3 λy H4=>∃acc,H4 D=some (.lst acc)/\acc.length<sizeLine/\Nx (upd H4 D (.lst (acc++[y]))) else Nx H3):=(by apply aj:aa (by
 intro D hD;refine ank (λi H=>bh H1 H/\H D=some (.lst (((xs.take i).filter p).map g))) ⟨bh.new hD,aD⟩ (λi H _ h=>h.1.seq hs) ?_ ?_
 ·rintro i x H hx ⟨s1,hd⟩;have hi:i<xs.length:=(aQ.mp hx).1;refine ⟨Mt _ _ _,ht i x H _ hx s1 λH3 s3=>?_⟩;cases hp:p x with
  |false=>
   simp only [cD,if_false];refine ⟨s1.trans s3,?_⟩;rw [s3 _ _ hd,take_succ hx,Fe,tQ,hp];simp
  |true=>
   simp only [if_true];refine he i x H3 _ hx hp (s1.trans s3) λH4 s4=>⟨_,s4 _ _ (s3 _ _ hd),?_,((s1.trans s3).trans s4).put hD,?_⟩
   ·rw [ao];refine Vs (yR _ _) ?_;rw [bO];omega
   ·rw [aD,take_succ hx,Fe,tQ,hp];simp
 ·rintro H ⟨s1,hd⟩;rw [lM] at hd;exact hQ D H hD s1 hd))
theorem FJ(g:V->V)(hs:cY K H1 a xs)(hz:xs.length<=sizeLine)(he:∀(i:Nat) (x:V) (H:Hp) (R:VK),xs[i]? =some x->bh H1 H->(∀H',bh H H'->R (g x) H')->te ((wipe σ [j]).set j (some x)) H R)(hQ:∀D H',H1 D=none->bh H1 H'->H' D=some (.lst (xs.map g))->Q D H'):
  ∀D,H1 D=none->∃W:Nat->Nat->Hp->Prop,(∃m,W 0 m (upd H1 D (.lst [])))/\∀i m H,W i m H->
   ((Itl K a).stop i H/\Q D H)\/((Itl K a).go i H/\∃Nx:Hp->Prop,(∀H',Nx H'->∃m',m'<m/\W (i+1) m' H')/\∀x H',(Itl K a).yld i H x H'->wz j x (wipe σ [j]) H' λσ2 H2=>wipe σ2 [j]=wipe σ [j]/\W3 σ2 H2 λb H3=>
    if b=true then te σ2 H3 λy H4=>∃acc,H4 D=some (.lst acc)/\acc.length<sizeLine/\Nx (upd H4 D (.lst (acc++[y]))) else Nx H3):=by
 refine Ye (λ_=>true) g hs hz (λi x H R hx s1 h=>h H (bh.refl H)) (λi x H R hx _ s1 h=>he i x H R hx s1 h) λD H' hD s1 h=>hQ D H' hD s1 ?_;rw [h,List.filter_eq_self.mpr (λ_ _=>rfl)]
theorem Wf{z:Str}(g:V->V)(hz:z.cps.size<=sizeLine)(he:∀(i c:Nat) (H:Hp) (R:VK),z.cps[i]? =some c->bh H1 H->(∀H',bh H H'->R (g (.str ⟨#[c]⟩)) H')->te ((wipe σ [j]).set j (some (.str ⟨#[c]⟩))) H R)(hQ:∀D H',H1 D=none->bh H1 H'->H' D=some (.lst (z.cps.toList.map λc=>g (.str ⟨#[c]⟩)))->Q D H'):
  ∀D,H1 D=none->∃W:Nat->Nat->Hp->Prop,(∃m,W 0 m (upd H1 D (.lst [])))/\∀i m H,W i m H->
   ((Its z).stop i H/\Q D H)\/((Its z).go i H/\∃Nx:Hp->Prop,(∀H',Nx H'->∃m',m'<m/\W (i+1) m' H')/\∀x H',(Its z).yld i H x H'->wz j x (wipe σ [j]) H' λσ2 H2=>wipe σ2 [j]=wipe σ [j]/\W3 σ2 H2 λb H3=>
    if b=true then te σ2 H3 λy H4=>∃acc,H4 D=some (.lst acc)/\acc.length<sizeLine/\Nx (upd H4 D (.lst (acc++[y]))) else Nx H3):=(by apply aj:aa (by
 intro D hD;refine ⟨λi m H=>m=z.cps.size - i/\i<=z.cps.size/\bh H1 H/\H D=some (.lst ((z.cps.toList.take i).map λc=>g (.str ⟨#[c]⟩))),⟨_,rfl,eX _,bh.new hD,aD⟩,?_⟩;rintro i m H ⟨rfl,hi,s1,hd⟩;by_cases hlt:i<z.cps.size
 ·refine .inr ⟨hlt,λH'=>bh H1 H'/\H' D=some (.lst ((z.cps.toList.take (i+1)).map λc=>g (.str ⟨#[c]⟩))),λH' ⟨s2,h2⟩=>⟨_,?_,rfl,hlt,s2,h2⟩,?_⟩
  ·omega
  ·rintro x H' ⟨eH,c,hc,ex⟩;subst eH ex;refine ⟨Mt _ _ _,?_⟩;simp only [W3,↓reduceIte];have hc2:z.cps.toList[i]? =some c:=by rw [qL];exact hc
   refine he i c H' _ hc s1 λH4 s4=>⟨_,s4 _ _ hd,?_,(s1.trans s4).put hD,?_⟩
   ·rw [ao,bO,gb];omega
   ·rw [aD,take_succ hc2];simp
 ·refine .inl ⟨by show z.cps.size<=i;omega,?_⟩;rw [dR (by rw [gb];omega)] at hd;exact hQ D H hD s1 hd))
theorem Rv(g:V->V->V)(hs:cY K H1 a xs)(hs2:cY K H1 b ys)(hz:xs.length<=sizeLine)(hj:j1≠j2)(he:∀(i:Nat) (x y:V) (H:Hp) (R:VK),xs[i]? =some x->ys[i]? =some y->bh H1 H->(∀H',bh H H'->R (g x y) H')->te (((wipe σ [j1,j2]).set j1 (some x)).set j2 (some y)) H R)(hQ:∀D H',H1 D=none->bh H1 H'->H' D=some (.lst (bM g xs ys))->Q D H'):
  ∀D,H1 D=none->∃W:Nat->Nat->Hp->Prop,(∃m,W 0 m (upd H1 D (.lst [])))/\∀i m H,W i m H->
   ((Itz K a b).stop i H/\Q D H)\/((Itz K a b).go i H/\∃Nx:Hp->Prop,(∀H',Nx H'->∃m',m'<m/\W (i+1) m' H')/\∀x H',(Itz K a b).yld i H x H'->ajG K 2 (Pg (wz j1) (Pg (wz j2) al7)) x (wipe σ [j1,j2]) H' λσ2 H2=>wipe σ2 [j1,j2]=wipe σ [j1,j2]/\W3 σ2 H2 λb H3=>
    if b=true then te σ2 H3 λy H4=>∃acc,H4 D=some (.lst acc)/\acc.length<sizeLine/\Nx (upd H4 D (.lst (acc++[y]))) else Nx H3):=(by apply aj:aa (by
 intro D hD;refine ⟨λi m H=>m=min xs.length ys.length - i/\i<=min xs.length ys.length/\bh H1 H/\H D=some (.lst (bM g (xs.take i) (ys.take i))),⟨_,rfl,eX _,bh.new hD,by rw [aD];simp⟩,?_⟩;rintro i m H ⟨rfl,hi,s1,hd⟩;by_cases hlt:i<min xs.length ys.length
 ·have h1:i<xs.length:=by omega
  have h2:i<ys.length:=by omega
  refine .inr ⟨⟨xs,ys,xs[i],ys[i],s1.seq hs,s1.seq hs2,ak h1,ak h2⟩,λH'=>bh H1 H'/\H' D=some (.lst (bM g (xs.take (i+1)) (ys.take (i+1)))),λH' ⟨s2,h2⟩=>⟨_,?_,rfl,hlt,s2,h2⟩,?_⟩
  ·omega
  ·rintro v H' ⟨t,x,y,ev,ht,eH,hx,hy⟩;subst ev eH;have hx:=hx xs (s1.seq hs);have hy:=hy ys (s1.seq hs2);have s2:bh H (upd H t (.tup [x,y])):=bh.new ht;refine ⟨t,_,rfl,Ol.of aD,rfl,x,_,rfl,y,_,rfl,rfl,Tf _ _ _ hj _ _,?_⟩;simp only [W3,↓reduceIte];refine he i x y _ _ hx hy (s1.trans s2) λH4 s4=>⟨_,s4 _ _ (s2 _ _ hd),?_,((s1.trans s2).trans s4).put hD,?_⟩
   ·rw [iT,bO,bO];omega
   ·rw [aD,take_succ hx,take_succ hy,List.zipWith_append (by rw [bO,bO];omega)];simp
 ·have e:xs.length<=i\/ys.length<=i:=by omega
  refine .inl ⟨⟨xs,ys,s1.seq hs,s1.seq hs2,e⟩,?_⟩;have e2:bM g (xs.take i) (ys.take i)=bM g xs ys:=by
   rw [<-List.take_zipWith,dR (by rw [iT];omega)]
  rw [e2] at hd;exact hQ D H hD s1 hd))
theorem ajk(g:Nat->V->V)(hs:cY K H1 a xs)(hz:xs.length<=sizeLine)(hj:j1≠j2)(he:∀(i:Nat) (x:V) (H:Hp) (R:VK),xs[i]? =some x->bh H1 H->(∀H',bh H H'->R (g (i+1) x) H')->te (((wipe σ [j1,j2]).set j1 (some (.int ((i+1:Nat):Int)))).set j2 (some x)) H R)(hQ:∀D H',H1 D=none->bh H1 H'->H' D=some (.lst (xs.zipIdx.map λp=>g (p.2+1) p.1))->Q D H'):
  ∀D,H1 D=none->∃W:Nat->Nat->Hp->Prop,(∃m,W 0 m (upd H1 D (.lst [])))/\∀i m H,W i m H->
   ((ams K a).stop i H/\Q D H)\/((ams K a).go i H/\∃Nx:Hp->Prop,(∀H',Nx H'->∃m',m'<m/\W (i+1) m' H')/\∀x H',(ams K a).yld i H x H'->ajG K 2 (Pg (wz j1) (Pg (wz j2) al7)) x (wipe σ [j1,j2]) H' λσ2 H2=>wipe σ2 [j1,j2]=wipe σ [j1,j2]/\W3 σ2 H2 λb H3=>
    if b=true then te σ2 H3 λy H4=>∃acc,H4 D=some (.lst acc)/\acc.length<sizeLine/\Nx (upd H4 D (.lst (acc++[y]))) else Nx H3):=(by apply aj:aa (by
 intro D hD;refine ⟨λi m H=>m=xs.length - i/\i<=xs.length/\bh H1 H/\H D=some (.lst ((xs.zipIdx.take i).map λp=>g (p.2+1) p.1)),⟨_,rfl,eX _,bh.new hD,by rw [aD];simp⟩,?_⟩;rintro i m H ⟨rfl,hi,s1,hd⟩;by_cases hlt:i<xs.length
 ·refine .inr ⟨⟨xs,xs[i],s1.seq hs,ak hlt⟩,λH'=>bh H1 H'/\H' D=some (.lst ((xs.zipIdx.take (i+1)).map λp=>g (p.2+1) p.1)),λH' ⟨s2,h2⟩=>⟨_,?_,rfl,hlt,s2,h2⟩,?_⟩
  ·omega
  ·rintro v H' ⟨t,x,ev,ht,eH,hx⟩;subst ev eH;have hx:=hx xs (s1.seq hs);have s2:bh H (upd H t (.tup [.int ((i+1:Nat):Int),x])):=bh.new ht;refine ⟨t,_,rfl,Ol.of aD,rfl,_,_,rfl,x,_,rfl,rfl,Tf _ _ _ hj _ _,?_⟩;simp only [W3,↓reduceIte];have hx2:xs.zipIdx[i]? =some (x,i):=by rw [QT,hx];simp
   refine he i x _ _ hx (s1.trans s2) λH4 s4=>⟨_,s4 _ _ (s2 _ _ hd),?_,((s1.trans s2).trans s4).put hD,?_⟩
   ·rw [ao,bO,Vu];omega
   ·rw [aD,take_succ hx2];simp
 ·refine .inl ⟨⟨xs,s1.seq hs,by omega⟩,?_⟩;rw [dR (by rw [Vu];omega)] at hd;exact hQ D H hD s1 hd))
end
end
section
open Vbmiam
noncomputable def mayBe (l:List Nat) (i b:Nat):Bool:=match l[i]? with | none=>true | some c=>decide (c=b)
theorem Qi(l:List Nat)(s i b:Nat):mayBe (l.drop s) i b=mayBe l (s+i) b:=by
 unfold mayBe;rw [v8]
theorem Fz{l:List Nat}{i b:Nat}(h:l.length<=i):mayBe l i b=true:=by
 unfold mayBe;rw [gY h]
theorem X8{l:List Nat}{i b:Nat}(h:i<l.length):mayBe l i b=decide (l[i]=b):=by
 unfold mayBe;rw [ak h]
noncomputable def endOf (b:List Nat):Int:=match headOf b with
 |.part=>0
 |.broken=> -1
 |.whole p _ _=>14+p.length
theorem take_len{b:List Nat}{k:Nat}:(b.take k).length=min k b.length:=bO
theorem ajQ(b:List Nat):endOf b=
  if (b.take 6).all digit=false then -1 else if (b.take 6).length<6 then 0 else
  if ¬(1<=value (b.take 6)/\value (b.take 6)<=200) then -1 else
  if mayBe b 6 32=false\/mayBe b (7+value (b.take 6)) 35=false then -1 else
  if ((b.drop (7+value (b.take 6)+1)).take 5).all digit=false\/mayBe b (7+value (b.take 6)+7 - 1) 10=false then -1 else
  if 7+value (b.take 6)+7<=b.length then ((7+value (b.take 6)+7:Nat):Int) else 0:=(by apply aj:aa (by
 unfold endOf headOf LENGTH;dsimp only;generalize hn:value (b.take 6)=n;by_cases h6:(b.take 6).all digit=false
 ·simp only [h6,if_true]
 ·rw [if_neg h6,if_neg h6];by_cases hl:b.length<=6
  ·rw [if_pos hl];by_cases hl6:b.length=6
   ·have e1:¬(b.take 6).length<6:=by rw [take_len];omega
    rw [if_neg e1];by_cases hr:1<=n/\n<=200
    ·have e2:¬(b.length=6/\(n<1\/200<n)):=by omega
     rw [if_neg e2,if_neg (by simp [hr])];have m1:mayBe b 6 32=true:=Fz (by omega);have m2:mayBe b (7+n) 35=true:=Fz (by omega);have m3:mayBe b (7+n+7 - 1) 10=true:=Fz (by omega);have m4:(b.drop (7+n+1)).take 5=[]:=by rw [gH (by omega)];rfl
     rw [m1,m2,m3,m4];simp;omega
    ·have e2:b.length=6/\(n<1\/200<n):=by omega
     rw [if_pos e2,if_pos hr]
   ·have e1:(b.take 6).length<6:=by rw [take_len];omega
    have e2:¬(b.length=6/\(n<1\/200<n)):=by omega
    rw [if_pos e1,if_neg e2]
  ·have e1:¬(b.take 6).length<6:=by rw [take_len];omega
   rw [if_neg hl,if_neg e1];have g6:b.getD 6 0=b[6]:=by rw [cC,ak (by omega)];rfl
   have m1:mayBe b 6 32=decide (b[6]=32):=X8 (by omega);by_cases hr:1<=n/\n<=200
   ·rw [if_neg (show ¬ ¬(1<=n/\n<=200) by simp [hr])];by_cases hb:b[6]=32
    ·rw [if_neg (show ¬(n<1\/200<n\/b.getD 6 0≠32) by rw [g6];omega)];have lt:(b.drop (7+n)).length=b.length - (7+n):=cA;by_cases hs:b.length<=7+n
     ·have et:(b.drop (7+n)).isEmpty=true:=by rw [zc,gH hs]
      rw [if_pos et];have m2:mayBe b (7+n) 35=true:=Fz (by omega);have m3:mayBe b (7+n+7 - 1) 10=true:=Fz (by omega);have m4:(b.drop (7+n+1)).take 5=[]:=by rw [gH (by omega)];rfl
      rw [m1,m2,m3,m4];simp [hb];omega
     ·have et:¬(b.drop (7+n)).isEmpty=true:=by
       rw [zc];intro z;rw [z] at lt;simp at lt;omega
      rw [if_neg et];have hh:(b.drop (7+n)).head? =some b[7+n]:=by rw [List.head?_drop,ak (by omega)]
      have m2:mayBe b (7+n) 35=decide (b[7+n]=35):=X8 (by omega);rw [hh,m1,m2];by_cases h35:b[7+n]=35
      ·rw [if_neg (show ¬(some b[7+n]≠some 35) by simp [h35]),if_neg (show ¬(decide (b[6]=32)=false\/decide (b[7+n]=35)=false) by simp [hb,h35])];have ed:(b.drop (7+n)).drop 1=b.drop (7+n+1):=gO;rw [ed];by_cases h5:((b.drop (7+n+1)).take 5).all digit=false
       ·rw [if_pos h5,if_pos (dZ h5)]
       ·rw [if_neg h5,lt];by_cases h7:b.length - (7+n)<7
        ·have m3:mayBe b (7+n+7 - 1) 10=true:=Fz (by omega);rw [if_pos h7,m3,if_neg (show ¬(((b.drop (7+n+1)).take 5).all digit=false\/true=false) by simp only [h5];simp),if_neg (by omega)]
        ·rw [if_neg h7];have m3:mayBe b (7+n+7 - 1) 10=decide (b[7+n+7 - 1]=10):=X8 (by omega);have g10:(b.drop (7+n)).getD 6 0=b[7+n+7 - 1]:=by
          rw [cC,v8,ak (by omega)];rfl
         rw [g10,m3];by_cases h10:b[7+n+7 - 1]=10
         ·rw [if_neg (show ¬b[7+n+7 - 1]≠10 from λz=>z h10),if_neg (show ¬(((b.drop (7+n+1)).take 5).all digit=false\/decide (b[7+n+7 - 1]=10)=false) from λz=>z.elim h5 (λq=>of_decide_eq_false q h10)),if_pos (by omega)];simp only [bO,cA];omega
         ·rw [if_pos h10,if_pos (gF (decide_eq_false h10))]
      ·rw [if_pos (show some b[7+n]≠some 35 by simp [h35]),if_pos (gF (decide_eq_false h35))]
    ·rw [if_pos (show n<1\/200<n\/b.getD 6 0≠32 by rw [g6];exact gF (gF hb)),m1,if_pos (dZ (decide_eq_false hb))]
   ·rw [if_pos (show n<1\/200<n\/b.getD 6 0≠32 by omega),if_pos hr]))
theorem UW{b p rest:List Nat}{right:Bool}(h:headOf b= .whole p right rest):
  1<=p.length/\p.length<=200/\14+p.length<=b.length/\p=(b.drop 7).take p.length/\rest=b.drop (14+p.length)/\((b.drop (8+p.length)).take 5).all digit=true/\
   right=(sumOf p==value ((b.drop (8+p.length)).take 5)):=(by apply aj:aa (by
 unfold headOf LENGTH at h;dsimp only at h;generalize hn:value (b.take 6)=n at h;split at h
 ·cases h
 ·split at h
  ·split at h<;>cases h
  ·split at h
   ·cases h
   ·rename_i h1 h2 h3;split at h
    ·cases h
    ·split at h
     ·cases h
     ·split at h
      ·cases h
      ·split at h
       ·cases h
       ·split at h
        ·cases h
        ·rename_i h4 h5 h6 h7 h8;have lt:(b.drop (7+n)).length=b.length - (7+n):=cA;rw [lt] at h7;injection h with e1 e2 e3
         have hp:p.length=n:=by
          rw [<-e1,bO,cA];omega
         have ed:(b.drop (7+n)).drop 1=b.drop (8+n):=by rw [gO];congr 1;omega
         have er:(b.drop (7+n)).drop 7=b.drop (14+n):=by rw [gO];congr 1;omega
         rw [ed] at h6 e2;rw [er] at e3;rw [hp];refine ⟨by omega,by omega,by omega,e1.symm,e3.symm,by simpa using h6,?_⟩;rw [<-e2,e1]))
end
local macro_rules | `(tactic| walk_at "rd") => do let a ← ("asq aqA start asO aqw asU an1 tB tOp aiK tC tCB aqE aoz rI0 rI asQ aqG auQ tOr asY asR tIf akV aqC as3 amV aqD aoF aqy auP rEq rNe atk ati atj tSl aqx amK atf asT asM aqF an2 an3 tBM avS tM1 am0 amZ atm atg auR aoD aoC asV ase aqI aqz avQ amL aoA aoE asW ipI atp avZ ate ath atn ato amY rIn aoB Xm asN wipe axy asF axx avx asG wz List.map_cons List.map_nil List.length_cons List.length_nil Nat.reduceAdd Nat.reduceSub List.replicate_succ List.replicate_zero List.cons_append List.nil_append List.append_nil List.getElem?_cons_zero List.getElem?_cons_succ List.set_cons_zero List.set_cons_succ Option.some.injEq V.int.injEq V.bl.injEq V.ref.injEq V.str.injEq List.cons.injEq exists_eq_left' exists_eq_left exists_and_left exists_eq' exists_eq and_true true_and decide_eq_true_eq and_self reduceCtorEq false_and exists_false Bool.not_eq_true' decide_eq_false_iff_not Bool.not_eq_eq_eq_not Bool.not_true Bool.not_false Bool.false_eq_true if_true if_false".splitOn " ").toArray.mapM fun s => `(Lean.Parser.Tactic.simpLemma| $(Lean.mkIdent s.toName):ident); `(tactic| simp only [$a,*])
section
open PySem PySem.Spec PyProof.Rows
noncomputable abbrev bV (l:List Nat):List V:=l.map λ(n:Nat)=>V.int (n:Int)
theorem Gi{l:List Nat}{i:Nat}{x:V}(h:(bV l)[i]? =some x):∃c,l[i]? =some c/\x= .int (c:Int):=by
 rw [aW] at h;cases e:l[i]? with
 |none=>rw [e] at h;cases h
 |some c=>rw [e] at h;exact ⟨c,rfl,(aB h).symm⟩
theorem arQ{l:List Nat}{i:Nat}{c:Nat}(h:l[i]? =some c):(bV l)[i]? =some (.int (c:Int)):=by
 rw [aW,h];rfl
theorem apR{α:Type}{xs:List α}{i:Nat}{x:α}(h:xs[i]? =some x):atI xs (i:Int)=some x:=fH h
section
variable {P:Program} {w:World} {K:az} {mg:Str->Option Value} {base:Heap} {A:uw}
inductive aiP(K:az)(vs:List V)(H:Hp)(Q:VK)(E:XK):Prop
 |mk (a:Addr) (l:List Nat) (i b:Nat) (_:vs=[.ref a,.int (i:Int),.int (b:Int)]) (_:cY K H a (bV l)) (_:Q (.bl (mayBe l i b)) H)
theorem ai5(T:Txt P w K mg A):fU P w K mg base mU 1 A.YM A.Gf Rn (aiP K):=(by apply aj:aa (by
 refine T.Fj.ok aiU (λvs H Q E h=>?_) (λcdv A' outer s H vs Q E hr h=>?_)
 ·obtain ⟨a,l,i,b,rfl,_⟩:=h;rfl
 ·obtain ⟨a,l,i,b,rfl,hs,k⟩:=h;refine ⟨_,(aK (bB (ale (nZ ahN (pv 1) (cH cW rfl T.jG bI (aq (pv 0) aG)) (cP _)) (acf (nZ oN (iG fP (pv 0) (pv 1) (λ_ _=>rfl)) (pv 2) (cP _)))))),?_⟩;walk_at "rd";refine ⟨_,.inl hs,?_⟩;rw [ao];split
  ·rename_i h1;have e:l[i]? =none:=gY (by omega);unfold mayBe at k;rw [e] at k;exact k
  ·rename_i h1;have hlt:i<l.length:=by omega
   have e:l[i]? =some l[i]:=ak hlt;refine ⟨_,hs,_,apR (arQ e),rfl,?_⟩;unfold mayBe at k;rw [e] at k;have e2:decide (V.int ((l[i]:Nat):Int)=V.int (b:Int))=decide (l[i]=b):=by
    congr 1;simp only [V.int.injEq];exact propext ⟨λz=>by omega,λz=>by omega⟩
   rw [e2];exact k))
inductive Tr(K:az)(vs:List V)(H:Hp)(Q:VK)(E:XK):Prop
 |mk (a:Addr) (l:List Nat) (_:vs=[.ref a]) (_:cY K H a (bV l)) (_:l.length<=sizeLine) (_:∀H',bh H H'->Q (.bl (l.all dj)) H')
noncomputable def agB:V->V
 |.int z=>.bl (decide (48<=z)&&decide (z<=57))
 |_=>.non
theorem agA(l:List Nat):(bV l).map agB=(l.map dj).map V.bl:=by
 rw [cG,cG];apply gm;intro n _;show V.bl (decide (48<=(n:Int))&&decide ((n:Int)<=57))=V.bl (decide (48<=n)&&decide (n<=57));congr 2<;>(apply decide_eq_decide.mpr;omega)
theorem Fw(T:Txt P w K mg A):fU P w K mg base mU 1 A.yK A.nG tu (Tr K):=(by apply aj:aa (by
 refine T.oJ.ok wG (λvs H Q E h=>?_) (λcdv A' outer s H vs Q E hr h=>?_)
 ·obtain ⟨a,l,rfl,_⟩:=h;rfl
 ·obtain ⟨a,l,rfl,hs,hz,k⟩:=h;refine ⟨_,(aK (bB (cH (Y4 rfl) rfl T.aev boot_all (aq (yU rfl wG.nd (uU (pv 0)) (iJ (N:=JF) (sc:=aX sY) (own:=[("byte",1)]) (by decide+kernel)) (λ_ _ _ _ _=>(eZ (i:=1) wG.nd rfl (dZ rfl) (hf:=gF rfl))) (λ_ _ _ _ _=>kJ) (λ_ _ _ _ _=>(aed ni ni (bH T.alD) (pv 1) (bH T.apc)))) aG)))),?_⟩;walk_at "rd";refine ⟨a,rfl,⟨_,hs⟩,FJ agB hs (by rw [ao];exact hz) ?_ ?_⟩
  ·intro i x H' R hx s1 h;obtain ⟨c,hc,rfl⟩:=Gi hx;walk_at "rd";have h2:=h H' (bh.refl H');simp only [agB] at h2;split
   ·rename_i h1;rw [decide_eq_true h1,dJ] at h2;exact h2
   ·rename_i h1;rw [decide_eq_false h1,eO] at h2;exact h2
  ·intro D H' hD s1 h;rw [agA] at h;refine ⟨D,rfl,_,cY.of h,?_⟩;rw [tR];exact k H' s1))
theorem WN(l:List Nat)(c:Nat):au (l++[c])=10*au l+(c - 48):=by
 unfold au;rw [Wu];rfl
inductive abM(K:az)(vs:List V)(H:Hp)(Q:VK)(E:XK):Prop
 |mk (a:Addr) (l:List Nat) (_:vs=[.ref a]) (_:cY K H a (bV l)) (_:l.all dj=true) (_:l.length<=10) (_:Q (.int (au l:Int)) H)
theorem adA:∀(n:Nat) (l:List Nat),l.length=n->l.all dj=true->au l<10^n
 |0,l,h,_=>by
  have e:l=[]:=ahg.mp h;subst e;show 0<1;omega
 |n+1,l,h,hd=>by
  rcases List.eq_nil_or_concat l with e | ⟨r,c,e⟩
  ·subst e;cases h
  ·rw [List.concat_eq_append] at e;subst e;rw [List.all_append,bf] at hd;have h1:r.length=n:=by simpa using h
   have ih:=adA n r h1 hd.1;have hc:dj c=true:=by simpa using hd.2
   unfold dj at hc;rw [bf,decide_eq_true_eq,decide_eq_true_eq] at hc;rw [WN,Nat.pow_succ];omega
theorem Rp(T:Txt P w K mg A):fU P w K mg base mU 1 A.Lb A.vC CQ (abM K):=(by apply aj:aa (by
 refine T.xV.ok zx (λvs H Q E h=>?_) (λcdv A' outer s H vs Q E hr h=>?_)
 ·obtain ⟨a,l,rfl,_⟩:=h;rfl
 ·obtain ⟨a,l,rfl,hs,hd,hl,k⟩:=h;refine ⟨_,(aL (lL 1 zx.nd bG)
   (aL (Hi ji rfl (uU (pv 0)) (eZ (i:=2) zx.nd rfl (dZ rfl)) (aK (lL 1 zx.nd (fC DY (fC kW (fC XJ (pv 1) bG) (pv 2)) (bH T.alD)))))
   (aK (bB (pv 1))))),?_⟩
  walk_at "rd";refine ⟨a,rfl,⟨_,hs⟩,amb (K:=K) (a:=a) (xs:=bV l) (λi σ H'=>∃v,σ=[some (.ref a),some (.int (au (l.take i):Int)),v]/\H'=H) ⟨_,rfl,rfl⟩ (λi σ H' _ ⟨_,_,e⟩=>by rw [e];exact hs) ?_ ?_⟩
  ·rintro i x σ H' hx ⟨v,rfl,rfl⟩;obtain ⟨c,hc,rfl⟩:=Gi hx;have hi:i<l.length:=(aQ.mp hc).1;have hdc:dj c=true:=dH.mp hd c (aM hc);unfold dj at hdc;rw [bf,decide_eq_true_eq,decide_eq_true_eq] at hdc;have ht:(l.take i).all dj=true:=by
    rw [dH] at hd⊢;exact λz hz=>hd z (akE hz)
   have hv:=adA i (l.take i) (by rw [bO];omega) ht;have hp:10^i<=10^10:=Aj (by decide) (by omega);walk_at "rd";refine ⟨.inl ⟨by omega,by omega⟩,?_⟩;rw [take_succ hc,WN];omega
  ·rintro σ H' ⟨v,rfl,rfl⟩;walk_at "rd";rw [ao,lM];exact k))
inductive aiO(K:az)(vs:List V)(H:Hp)(Q:VK)(E:XK):Prop
 |mk (a:Addr) (l:List Nat) (_:vs=[.ref a]) (_:cY K H a (bV l)) (_:l.length<=sizeLine) (_:∀H',bh H H'->Q (.int (xK l:Int)) H')
noncomputable def arD (n:Nat):V->V
 |.int z=>.int ((n:Int)*z)
 |_=>.non
theorem U0:∀(l:List Nat) (n:Nat),(((bV l).zipIdx n).map λp=>arD (p.2+1) p.1)=((l.zipIdx n).map λp=>V.int (((p.2+1)*p.1:Nat):Int))/\((l.zipIdx n).map λp=>(((p.2+1)*p.1:Nat):Int)).sum=((Ew (n+1) l:Nat):Int)
 |[],n=>⟨rfl,rfl⟩
 |c::r,n=>by
  obtain ⟨h1,h2⟩:=U0 r (n+1);constructor
  ·show V.int (((n+1:Nat):Int)*(c:Int))::((bV r).zipIdx (n+1)).map _=V.int (((n+1)*c:Nat):Int)::(r.zipIdx (n+1)).map _;rw [h1,Int.natCast_mul]
  ·rw [ZK,bu,List.sum_cons,h2];show (((n+1)*c:Nat):Int)+_=(((n+1)*c+Ew (n+1+1) r:Nat):Int);omega
theorem TY(T:Txt P w K mg A):fU P w K mg base mU 1 A.YL A.Ge Rm (aiO K):=(by apply aj:aa (by
 refine T.Fi.ok MP (λvs H Q E h=>?_) (λcdv A' outer s H vs Q E hr h=>?_)
 ·obtain ⟨a,l,rfl,_⟩:=h;rfl
 ·obtain ⟨a,l,rfl,hs,hz,k⟩:=h;refine ⟨_,(aK (bB (fC alg (cH (apM rfl) rfl T.aqX boot_sum (aq (yU rfl MP.nd (XD rfl T.KC (aq (pv 0) aG)) (iJ (N:=ae7) (sc:=aX Ri) (own:=[("place",1),("byte",2)]) (by decide+kernel)) (λ_ _ _ _ _=>(uW (K:=K) (n:=2) rfl rfl (g8 (eZ (i:=1) MP.nd rfl (dZ rfl) (hf:=gF rfl)) (g8 (eZ (i:=2) MP.nd rfl (dZ rfl) (hf:=gF rfl)) uV)))) (λ_ _ _ _ _=>kJ) (λ_ _ _ _ _=>(fC XJ (pv 1) (pv 2)))) aG)) (bH T.aau)))),?_⟩;walk_at "rd";refine ⟨a,_,rfl,hs,ajk arD hs (by rw [ao];exact hz) (by decide) ?_ ?_⟩
  ·intro i x H' R hx s1 h;obtain ⟨c,hc,rfl⟩:=Gi hx;have hi:i<l.length:=(aQ.mp hc).1;have hsl:sizeLine=16777216:=sizeLine_eq;walk_at "rd";exact ⟨.inl ⟨by omega,by omega⟩,h H' (bh.refl H')⟩
  ·intro D H' hD s1 h;obtain ⟨h1,h2⟩:=U0 l 0;have h3:H' D=some (.lst (((l.zipIdx 0).map λp=>(((p.2+1)*p.1:Nat):Int)).map V.int)):=by
    rw [h,h1,cG];rfl
   refine ⟨D,rfl,_,cY.of h3,?_⟩;rw [h2];walk_at "rd";refine ⟨by decide,?_⟩;have e:((Ew (0+1) l:Nat):Int)%65521=((xK l:Nat):Int):=by
    show ((Ew 1 l:Nat):Int)%65521=((Ew 1 l%65521:Nat):Int);omega
   rw [e];exact k H' s1))
end
theorem Ln(xs:List V)(i j:Nat):ym xs (some (i:Int)) (some (j:Int))=(xs.drop i).take (j - i):=by
 unfold ym;rw [HT.Wa,HT.Wa];by_cases h:i<=xs.length
 ·rw [Cu h];by_cases h2:j<=xs.length
  ·rw [Cu h2]
  ·rw [ZJ (by omega),dR (by rw [cA];omega),dR (by rw [cA];omega)]
 ·have e:min i xs.length=xs.length:=by omega
  rw [e,gH (aU _),gH (by omega)];simp
theorem Uj(xs:List V)(i:Nat):ym xs (some (i:Int)) none=xs.drop i:=by
 unfold ym;rw [HT.Wa,HT.adX];by_cases h:i<=xs.length
 ·rw [Cu h,dR (by rw [cA];omega)]
 ·rw [ZJ (by omega),gH (aU _),gH (by omega)];simp
theorem agO(xs:List V)(j:Nat):ym xs none (some (j:Int))=xs.take j:=by
 unfold ym;rw [HT.Wa,HT.adX,oG,aiq];by_cases h:j<=xs.length
 ·rw [Cu h]
 ·rw [ZJ (by omega),dR (aU _),dR (by omega)]
theorem Y8(l:List Nat)(i k:Nat):((bV l).drop i).take k=bV ((l.drop i).take k):=by
 rw [<-Af,<-uA]
section
variable {P:Program} {w:World} {K:az} {mg:Str->Option Value} {base:Heap} {A:uw}
noncomputable def lenOf (b:List Nat):Int:=if (b.take 6).all dj=false then -1 else if (b.take 6).length<6 then 0 else if 1<=au (b.take 6)/\au (b.take 6)<=200 then (au (b.take 6):Int) else -1
inductive abO(K:az)(vs:List V)(H:Hp)(Q:VK)(E:XK):Prop
 |mk (a:Addr) (l:List Nat) (i:Nat) (_:vs=[.ref a,.int (i:Int)]) (_:cY K H a (bV l)) (_:∀H',bh H H'->Q (.int (lenOf (l.drop i))) H')
theorem acq(T:Txt P w K mg A):fU P w K mg base mU 2 A.Le A.vG CV (abO K):=(by apply aj:aa (by
 have yP:=Fw (base:=base) T;have Mp:=Rp (base:=base) T;refine T.CJ.ok GP (λvs H Q E h=>?_) (λcdv A' outer s H vs Q E hr h=>?_)
 ·obtain ⟨a,l,i,rfl,_⟩:=h;rfl
 ·obtain ⟨a,l,i,rfl,hs,k⟩:=h;refine ⟨_,(aL (lL 2 GP.nd (jF lF (pv 0) (gr (pv 1)) (gr (fC kW (pv 1) (bH T.tK)))))
   (aL (dW (kO (lN (cJ yP (hr.mono (by decide)) rfl T.JB T.oJ.kp T.tM .nil dz (aq (pv 2) aG)))) (aK (bB (bH T.FQ))) b7)
   (aL (dW (bZ Kv (cH cW rfl T.jG bI (aq (pv 2) aG)) (bH T.tK) (cP _)) (aK (bB (bH T.T8))) b7)
   (aL (lL 3 GP.nd (cJ Mp (hr.mono (by decide)) rfl T.Vj T.xV.kp T.Dk .nil dz (aq (pv 2) aG)))
   (aK (bB (xX (qd ni ni bG (pv 3) (bH T.Dg)) (pv 3) (bH T.FQ)))))))),?_⟩
  walk_at "rd";refine ⟨_,hs,λp hp=>?_⟩;have e0:(i:Int)+6=((i+6:Nat):Int):=by omega
  rw [e0,Ln,Y8,ahf];have s1:bh H (upd H p (.lst (bV ((l.drop i).take 6)))):=bh.new hp;have hd:upd H p (.lst (bV ((l.drop i).take 6))) p=some (.lst (bV ((l.drop i).take 6))):=aD;generalize upd H p (.lst (bV ((l.drop i).take 6)))=H1 at s1 hd;have hl6:((l.drop i).take 6).length<=6:=by rw [bO];omega
  refine ⟨p,_,rfl,cY.of hd,aY hl6 (by decide),λH2 s2=>?_⟩;walk_at "rd";unfold lenOf at k;have hd2:=s2 _ _ hd;have s3:=s1.trans s2;cases hA:((l.drop i).take 6).all dj with
  |false=>
   rw [if_pos hA] at k;simp only [↓reduceIte];exact k H2 s3
  |true=>
   rw [if_neg (by rw [hA];decide)] at k;simp only [Bool.true_eq_false,↓reduceIte];refine ⟨_,.inl (cY.of hd2),?_⟩;rw [ao];by_cases h6:((l.drop i).take 6).length<6
   ·rw [if_pos h6] at k;rw [if_pos (by omega)];exact k H2 s3
   ·rw [if_neg h6] at k;rw [if_neg (by omega)];refine ⟨p,_,rfl,cY.of hd2,hA,by omega,?_⟩;walk_at "rd";have k2:=k H2 s3;split
    ·split
     ·rw [if_pos (by omega)] at k2;exact k2
     ·rw [if_neg (by omega)] at k2;exact k2
    ·rw [if_neg (by omega)] at k2;exact k2))
noncomputable def endAt (l:List Nat) (i:Nat):Int:=if 0<endOf (l.drop i) then (i:Int)+endOf (l.drop i) else endOf (l.drop i)
theorem aeB(b:List Nat):(lenOf b=0/\endOf b=0)\/(lenOf b= -1/\endOf b= -1)\/∃n:Nat,lenOf b=(n:Int)/\n=au (b.take 6)/\1<=n/\n<=200/\endOf b=
  (if mayBe b 6 32=false\/mayBe b (7+n) 35=false then -1 else
  if ((b.drop (7+n+1)).take 5).all dj=false\/mayBe b (7+n+7 - 1) 10=false then -1 else
  if 7+n+7<=b.length then ((7+n+7:Nat):Int) else 0):=(by apply aj:aa (by
 rw [ajQ];unfold lenOf;by_cases h1:(b.take 6).all dj=false
 ·rw [if_pos h1,if_pos h1];exact .inr (.inl ⟨rfl,rfl⟩)
 ·rw [if_neg h1,if_neg h1];by_cases h2:(b.take 6).length<6
  ·rw [if_pos h2,if_pos h2];exact .inl ⟨rfl,rfl⟩
  ·rw [if_neg h2,if_neg h2];by_cases h3:1<=au (b.take 6)/\au (b.take 6)<=200
   ·rw [if_pos h3,if_neg (λz=>z h3)];exact .inr (.inr ⟨_,rfl,rfl,h3.1,h3.2,rfl⟩)
   ·rw [if_neg h3,if_pos h3];exact .inr (.inl ⟨rfl,rfl⟩)))
inductive Z0(K:az)(vs:List V)(H:Hp)(Q:VK)(E:XK):Prop
 |mk (a:Addr) (l:List Nat) (i:Nat) (_:vs=[.ref a,.int (i:Int)]) (_:cY K H a (bV l)) (_:l.length<=sizeLine) (_:i<=l.length) (_:∀H',bh H H'->Q (.int (endAt l i)) H')
theorem aak(T:Txt P w K mg A):fU P w K mg base mU 3 A.HB A.rR zH (Z0 K):=(by apply aj:aa (by
 have yP:=Fw (base:=base) T;have Zw:=ai5 (base:=base) T;have afg:=acq (base:=base) T;refine T.uF.ok xf (λvs H Q E h=>?_) (λcdv A' outer s H vs Q E hr h=>?_)
 ·obtain ⟨a,l,i,rfl,_⟩:=h;rfl
 ·obtain ⟨a,l,i,rfl,hs,hz,hi,k⟩:=h;refine ⟨_,(aL (lL 2 xf.nd (hld (cJ afg (hr.mono (by decide)) rfl T.aeV T.CJ.kp T.Lz .nil dz (aq (pv 0) (aq (pv 1) aG)))))
   (aL (dW (PW.pt (pw_or (bZ oN (pv 2) (bH T.T8) (cP _)) (pw_or1 (bZ oN (pv 2) (bH T.FQ) (cP _))))) (aK (bB (pv 2))) b7)
   (aL (lL 3 xf.nd (fC kW (fC kW (pv 1) (bH T.FW)) (pv 2)))
   (aL (lL 4 xf.nd (fC kW (pv 3) (bH T.FT)))
   (aL (dW (PW.pt (pw_or (kO (lN (hld (cJ Zw (hr.mono (by decide)) rfl T.YG T.Fj.kp T.Ly .nil dz (aq (pv 0) (aq (fC kW (pv 1) (bH T.tK)) (aq (bH T.Jy) aG))))))) (pw_or1 (kO (lN (hld (cJ Zw (hr.mono (by decide)) rfl T.YG T.Fj.kp T.Ly .nil dz (aq (pv 0) (aq (pv 3) (aq (bH T.ahW) aG)))))))))) (aK (bB (bH T.FQ))) b7)
   (aL (dW (PW.pt (pw_or (kO (lN (hld (cJ yP (hr.mono (by decide)) rfl T.JB T.oJ.kp T.tM .nil dz (aq (jF lF (pv 0) (gr (fC kW (pv 3) bG)) (gr (fC kW (fC kW (pv 3) bG) (bH T.Hu)))) aG))))) (pw_or1 (kO (lN (hld (cJ Zw (hr.mono (by decide)) rfl T.YG T.Fj.kp T.Ly .nil dz (aq (pv 0) (aq (fC DY (pv 4) bG) (aq (bH T.Yp) aG)))))))))) (aK (bB (bH T.FQ))) b7)
   (aK (bB (xX (bZ ni (pv 4) (cH cW rfl T.jG bI (aq (pv 0) aG)) (cP _)) (pv 4) (bH T.T8)))))))))),?_⟩
  walk_at "rd";refine ⟨a,l,i,rfl,hs,λH1 s1=>?_⟩;walk_at "rd";have hs1:=s1.seq hs;unfold endAt at k;rcases aeB (l.drop i) with ⟨e1,e2⟩ | ⟨e1,e2⟩ | ⟨n,e1,en,h1,h2,e2⟩
  ·rw [e2] at k;rw [e1];refine ⟨rfl,?_⟩;simp only [↓reduceIte];exact k H1 s1
  ·rw [e2] at k;rw [e1];refine ⟨rfl,?_⟩;rw [if_neg (by decide)];refine ⟨rfl,?_⟩;rw [if_pos (by decide)];exact k H1 s1
  ·rw [e1];refine ⟨rfl,?_⟩;rw [if_neg (by omega)];refine ⟨rfl,?_⟩;rw [if_neg (by omega)];have m6:mayBe (l.drop i) 6 32=mayBe l (i+6) 32:=Qi l i 6 32;have m35:mayBe (l.drop i) (7+n) 35=mayBe l (i+(7+n)) 35:=Qi l i (7+n) 35;have m10:mayBe (l.drop i) (7+n+7 - 1) 10=mayBe l (i+(7+n+7 - 1)) 10:=Qi l i _ 10;have md:(l.drop i).drop (7+n+1)=l.drop (i+(7+n+1)):=gO;have ml:(l.drop i).length=l.length - i:=cA;rw [m6,m35,m10,md,ml] at e2;have c6:(i:Int)+6=((i+6:Nat):Int):=by omega
   have c35:(i:Int)+7+(n:Int)=((i+(7+n):Nat):Int):=by omega
   have c8:(i:Int)+7+(n:Int)+1=((i+(7+n+1):Nat):Int):=by omega
   have c13:(i:Int)+7+(n:Int)+1+5=((i+(7+n+1)+5:Nat):Int):=by omega
   have c10:(i:Int)+7+(n:Int)+7 - 1=((i+(7+n+7 - 1):Nat):Int):=by omega
   refine ⟨a,l,i+6,32,by rw [c6];rfl,hs1,?_⟩;refine ⟨_,rfl,?_⟩;by_cases b6:mayBe l (i+6) 32=false
   ·walk_at "rd";rw [if_pos b6];rw [if_pos (dZ b6)] at e2;rw [e2] at k;exact k H1 s1
   ·walk_at "rd";rw [if_neg b6];refine ⟨a,l,i+(7+n),35,by rw [c35];rfl,hs1,?_⟩;refine ⟨_,rfl,?_⟩;by_cases b35:mayBe l (i+(7+n)) 35=false
    ·walk_at "rd";rw [if_pos b35];rw [if_pos (gF b35)] at e2;rw [e2] at k;exact k H1 s1
    ·walk_at "rd";rw [if_neg b35];rw [if_neg (λz=>z.elim b6 b35)] at e2;refine ⟨_,hs1,λp hp=>?_⟩;rw [c13,c8,Ln,Y8,ahf];have s2:bh H1 (upd H1 p (.lst (bV ((l.drop (i+(7+n+1))).take 5)))):=bh.new hp;refine ⟨p,_,rfl,cY.of aD,by rw [bO];exact aY (Nat.min_le_left _ _) (by decide),λH2 s3=>?_⟩;have s4:=(s1.trans s2).trans s3;refine ⟨_,rfl,?_⟩;by_cases b5:((l.drop (i+(7+n+1))).take 5).all dj=false
     ·walk_at "rd";rw [if_pos b5];rw [if_pos (dZ b5)] at e2;rw [e2] at k;exact k H2 s4
     ·walk_at "rd";rw [if_neg b5];refine ⟨a,l,i+(7+n+7 - 1),10,by rw [c10];rfl,s4.seq hs,?_⟩;refine ⟨_,rfl,?_⟩;by_cases b10:mayBe l (i+(7+n+7 - 1)) 10=false
      ·walk_at "rd";rw [if_pos b10];rw [if_pos (gF b10)] at e2;rw [e2] at k;exact k H2 s4
      ·walk_at "rd";rw [if_neg b10];rw [if_neg (λz=>z.elim b5 b10)] at e2;refine ⟨_,.inl (s4.seq hs),?_⟩;rw [ao];by_cases be:7+n+7<=l.length - i
       ·rw [if_pos be] at e2;rw [if_pos (by omega)];rw [e2,if_pos (by omega)] at k;have ek:(i:Int)+((7+n+7:Nat):Int)=(i:Int)+7+(n:Int)+7:=by omega
        rw [ek] at k;exact k H2 s4
       ·rw [if_neg be] at e2;rw [if_neg (by omega)];rw [e2] at k;exact k H2 s4))
end
end
section
open Vbmiam
noncomputable def known (b:Nat):Bool:=lower b || digit b || (b==32) || (b==45)
def sg(b:Nat):Nat:=if known b=true then b else 63
def tx(w:List Nat):SM:=⟨w.toArray⟩
theorem abB(w:List Nat):(tx w).cps.toList=w:=rfl
theorem Pz{u v:List Nat}(h:tx u=tx v):u=v:=by
 have:=congrArg (λz:SM=>z.cps.toList) h;exact this
theorem Th(w:List Nat):(tx w).length=w.length:=by
 show (w.toArray).size=w.length;simp
theorem KR(c:Nat):c∈(EY "abcdefghijklmnopqrstuvwxyz").cps.toList↔lower c=true:=by
 have e:(EY "abcdefghijklmnopqrstuvwxyz").cps.toList=Ji 97 26:=by decide+kernel
 rw [e,Jk];unfold lower;rw [bf,decide_eq_true_eq,decide_eq_true_eq];omega
theorem YX(c:Nat):c∈(EY "0123456789").cps.toList↔digit c=true:=by
 have e:(EY "0123456789").cps.toList=Ji 48 10:=by decide+kernel
 rw [e,Jk];unfold digit;rw [bf,decide_eq_true_eq,decide_eq_true_eq];omega
theorem adR(c:Nat):lower (sg c)=lower c:=by
 unfold sg;by_cases h:known c=true
 ·rw [if_pos h]
 ·rw [if_neg h];have:lower c=false:=by
   cases e:lower c
   ·rfl
   ·exact absurd (by unfold known;rw [e];rfl) h
  rw [this];rfl
theorem adT(c:Nat):digit (sg c)=digit c:=by
 unfold sg;by_cases h:known c=true
 ·rw [if_pos h]
 ·rw [if_neg h];have:digit c=false:=by
   cases e:digit c
   ·rfl
   ·exact absurd (by unfold known;rw [e];simp) h
  rw [this];rfl
theorem ak1{c k:Nat}(hk:known k=true):sg c=k↔c=k:=by
 unfold sg;by_cases h:known c=true
 ·rw [if_pos h]
 ·rw [if_neg h];constructor
  ·intro e;subst e;exact absurd hk (by decide)
  ·intro e;subst e;exact absurd hk h
theorem adS{c:Nat}(h:known c=true):sg c=c:=by unfold sg;rw [if_pos h]
theorem um{w:List Nat}(h:∀c∈w,known c=true):w.map sg=w:=by
 have:w.map sg=w.map id:=gm λc hc=>adS (h c hc);rw [this,List.map_id]
theorem Tt:∀{u w:List Nat},(∀c∈w,known c=true)->(u.map sg=w↔u=w)
 |[],[],_=>by simp
 |[],_::_,_=>by simp
 |_::_,[],_=>by simp
 |a::u,b::w,h=>by
  have ih:=Tt (u:=u) (w:=w) λc hc=>h c (aV _ hc);have hb:=ak1 (c:=a) (h b (bz ..));rw [bu,Ow,Ow,ih,hb]
theorem ajt(w:List Nat):isName (w.map sg)=isName w:=by
 unfold isName;have e1:(w.map sg).head?.any lower=w.head?.any lower:=by
  cases w with
  |nil=>rfl
  |cons a r=>
   show lower (sg a)=lower a;exact adR a
 have e2:(w.map sg).all (λc=>lower c || digit c)=w.all (λc=>lower c || digit c):=by
  rw [tR];congr 1;funext c;show (lower (sg c) || digit (sg c))=_;rw [adR,adT]
 rw [e1,e2,ao]
theorem Hx(w:List Nat):isNumeral (w.map sg)=isNumeral w:=(by apply aj:aa (by
 unfold isNumeral;have e1:(w.map sg).all digit=w.all digit:=by
  rw [tR];congr 1;funext c;exact adT c
 have e2:((w.map sg).head? != some 48)=(w.head? != some 48):=by
  cases w with
  |nil=>rfl
  |cons a r=>
   show (some (sg a) != some 48)=(some a != some 48);have:=ak1 (c:=a) (k:=48) (by decide);by_cases h:a=48
   ·subst h;rfl
   ·have h2:sg a≠48:=λz=>h (this.mp z);show (!(sg a==48))= !(a==48);rw [beq_false_of_ne h2,beq_false_of_ne h]
 have e3:(w.map sg).isEmpty=w.isEmpty:=by cases w<;>rfl
 rw [e1,e2,e3,ao]))
theorem oA{w:List Nat}(h:isName w=true):∀c∈w,known c=true:=by
 unfold isName at h;rw [bf,bf,dH] at h;intro c hc;have:=h.2.1 c hc;unfold known;rw [this];rfl
theorem O6{w:List Nat}(h:isNumeral w=true):∀c∈w,known c=true:=by
 unfold isNumeral at h;simp only [bf,dH] at h;intro c hc;have:=h.2.2.1 c hc;unfold known;rw [this];simp
theorem PB(l:List Nat):splitBy 32 l≠[]:=by
 cases l with
 |nil=>exact λz=>nomatch z
 |cons c r=>
  unfold splitBy;split
  ·exact λz=>nomatch z
  ·split<;>exact λz=>nomatch z
theorem Tj:∀(l acc:List Nat),TL.Jo [32] 0 acc (l.map sg)=match splitBy 32 l with | []=>[acc] | x::t=>(acc++x.map sg)::t.map (·.map sg)
 |[],acc=>by
  show [acc]=[acc++[]];rw [iw]
 |c::r,acc=>by
  rw [bu];by_cases h:c=32
  ·subst h;have hp:TL.pre [32] (sg 32::r.map sg)=true:=by
    show ((sg 32::r.map sg).take 1==[32])=true;rw [adS (by decide)];rfl
   rw [TL.abL hp];show acc::TL.Jo [32] 0 [] (r.map sg)=_;have es:splitBy 32 (32::r)=[]::splitBy 32 r:=by
    conv=>lhs;unfold splitBy
    rw [if_pos rfl]
   rw [Tj r [],es];cases e:splitBy 32 r with
   |nil=>exact absurd e (PB r)
   |cons x t=>simp
  ·have hs:sg c≠32:=λz=>h ((ak1 (k:=32) (by decide)).mp z);have hp:TL.pre [32] (sg c::r.map sg)=false:=TL.ad6 [] _ hs;rw [TL.W6 hp,Tj r]
   conv=>rhs;unfold splitBy
   rw [if_neg h];cases e:splitBy 32 r with
   |nil=>exact absurd e (PB r)
   |cons x t=>simp
theorem aiM(l:List Nat):(TL.Jo [32] 0 [] (l.map sg)).filter (λw=> !w.isEmpty)=(wordsOf l).map (·.map sg):=(by apply aj:aa (by
 rw [Tj];unfold wordsOf;cases e:splitBy 32 l with
 |nil=>exact absurd e (PB l)
 |cons x t=>
  show ((([]:List Nat)++x.map sg)::t.map (·.map sg)).filter _=_;rw [mO];have:(x.map sg::t.map (·.map sg))=(x::t).map (·.map sg):=rfl;rw [this,List.filter_map];congr 2;funext w;cases w<;>rfl))
end
section
open PySem PySem.Spec PyProof.Rows
section
variable {P:Program} {w:World} {K:az} {mg:Str->Option Value} {base:Heap} {A:uw}
inductive afQ(K:az)(vs:List V)(H:Hp)(Q:VK)(E:XK):Prop
 |mk (a:Addr) (l:List Nat) (_:vs=[.ref a]) (_:cY K H a (bV l)) (_:l.length<=10000) (_:∀H',bh H H'->Q (.str (tx (l.map sg))) H')
noncomputable def mQ (cs:List Nat):List (Key×V):=cs.map λ(c:Nat)=>(qZ (c:Int),V.str ⟨#[c]⟩)
theorem adQ(cs:List Nat)(b:Nat):m7 (mQ cs) (qZ (b:Int))=if b∈cs then some (V.str ⟨#[b]⟩) else none:=(by apply aj:aa (by
 induction cs with
 |nil=>rfl
 |cons c r ih=>
  show m7 ((qZ (c:Int),V.str ⟨#[c]⟩)::mQ r) _=_;by_cases h:c=b
  ·subst h;rw [xT rfl,if_pos (bz ..)]
  ·have h1:¬(qZ (c:Int):Key)=qZ (b:Int):=λz=>h (by have:=qZ.inj z;omega);rw [xU h1,ih];by_cases h2:b∈r
   ·rw [if_pos h2,if_pos (aV _ h2)]
   ·rw [if_neg h2,if_neg (λz=>by rcases bc.mp z with q | q;exact h q.symm;exact h2 q)]))
theorem aa3:∀(more kvs:List (Key×V)),((kvs++more).map (·.1)).Nodup->Bl kvs more=kvs++more
 |[],kvs,_=>by rw [iw];rfl
 |p::r,kvs,h=>by
  have e:Bl kvs (p::r)=Bl (putK kvs p.1 p.2) r:=rfl;have hn:m7 kvs p.1=none:=by
   cases q:m7 kvs p.1 with
   |none=>rfl
   |some v=>
    have hm:=amF q;rw [cT,bu] at h;have h3:=(Jj.mp h).2.2 _ hm _ (bz ..);exact absurd rfl h3
  rw [e,Xn _ hn,aa3 r]
  ·rw [mZ];rfl
  ·rw [mZ];exact h
noncomputable def allSigns:Str:=(("abcdefghijklmnopqrstuvwxyz":Str)++"0123456789")++" "++"-"
theorem Sg(b:Nat):b∈allSigns.cps.toList↔known b=true:=by
 have e:allSigns.cps.toList=Ji 97 26++Ji 48 10++[32,45]:=by decide+kernel
 rw [e,d8,d8,Jk,Jk];unfold known lG dj;simp only [Cy,bf,decide_eq_true_eq,beq_iff_eq,bc,bU,or_false];omega
theorem Za:((mQ allSigns.cps.toList).map (·.1)).Nodup:=by decide+kernel
theorem agp{te:TE}{j:Nat}{σ:St}{H1:Hp}{Q:Addr->Hp->Prop}{z:Str}(hz:z.cps.size<=sizeLine)(he:∀(i c:Nat) (H:Hp) (R:VK),z.cps[i]? =some c->(∀p,H p=none->R (.ref p) (upd H p (.tup [.int (c:Int),.str ⟨#[c]⟩])))->te ((wipe σ [j]).set j (some (.str ⟨#[c]⟩))) H R)(hQ:∀D H' (ps:List Addr),H1 D=none->bh H1 H'->H' D=some (.lst (ps.map V.ref))->Paired (λp kv=>H' p=some (.tup [kV kv.1,kv.2])) ps (mQ z.cps.toList)->Q D H'):
  ∀D,H1 D=none->∃W:Nat->Nat->Hp->Prop,(∃m,W 0 m (upd H1 D (.lst [])))/\∀i m H,W i m H->
   ((Its z).stop i H/\Q D H)\/((Its z).go i H/\∃Nx:Hp->Prop,(∀H',Nx H'->∃m',m'<m/\W (i+1) m' H')/\∀x H',(Its z).yld i H x H'->wz j x (wipe σ [j]) H' λσ2 H2=>wipe σ2 [j]=wipe σ [j]/\W3 σ2 H2 λb H3=>
    if b=true then te σ2 H3 λy H4=>∃acc,H4 D=some (.lst acc)/\acc.length<sizeLine/\Nx (upd H4 D (.lst (acc++[y]))) else Nx H3):=(by apply aj:aa (by
 intro D hD;refine ⟨λi m H=>m=z.cps.size - i/\i<=z.cps.size/\bh H1 H/\∃ps:List Addr,H D=some (.lst (ps.map V.ref))/\Paired (λp kv=>H p=some (.tup [kV kv.1,kv.2])) ps (mQ (z.cps.toList.take i)),⟨_,rfl,eX _,bh.new hD,[],aD,.nil⟩,?_⟩;rintro i m H ⟨rfl,hi,s1,ps,hd,hp⟩;by_cases hlt:i<z.cps.size
 ·refine .inr ⟨hlt,λH'=>bh H1 H'/\∃ps:List Addr,H' D=some (.lst (ps.map V.ref))/\Paired (λp kv=>H' p=some (.tup [kV kv.1,kv.2])) ps (mQ (z.cps.toList.take (i+1))),λH' ⟨s2,h2⟩=>⟨_,?_,rfl,hlt,s2,h2⟩,?_⟩
  ·omega
  ·rintro x H' ⟨eH,c,hc,ex⟩;subst eH ex;refine ⟨Mt _ _ _,?_⟩;simp only [W3,↓reduceIte];have hc2:z.cps.toList[i]? =some c:=by rw [qL];exact hc
   refine he i c H' _ hc λq hq=>?_;have nq:D≠q:=fK hd hq;have hl:ps.length=i:=by
    have e:=jy hp;unfold mQ at e;rw [ao,bO] at e;have e2:z.cps.toList.length=z.cps.size:=gb;omega
   refine ⟨_,by rw [aF nq];exact hd,by rw [ao];omega,bh.put (s1.trans (bh.new hq)) hD,ps++[q],?_,?_⟩
   ·rw [aD,cT];rfl
   ·rw [take_succ hc2];have e:mQ (z.cps.toList.take i++[c])=mQ (z.cps.toList.take i)++[(qZ (c:Int),V.str ⟨#[c]⟩)]:=by unfold mQ;rw [cT];rfl
    rw [e];refine akA (Paired.imp' (λp kv h=>?_) hp) ?_
    ·have n1:p≠D:=λz=>by rw [z,hd] at h;cases h
     rw [aF n1,aF (fK h hq)];exact h
    ·rw [aF (cO nq)];exact aD
 ·refine .inl ⟨by show z.cps.size<=i;omega,?_⟩;rw [dR (by rw [gb];omega)] at hp;exact hQ D H ps hD s1 hd hp))
noncomputable def al5:V->V
 |.int z=>.str ⟨#[sg z.toNat]⟩
 |_=>.non
theorem agu:∀l:List Nat,aky ("":Str) (l.map λc=>(⟨#[c]⟩:Str))=tx l:=λl=>by
 apply TL.agK;rw [TL.join_eq,TL.ahu,cG];show TL.aeH (TL.tl ("":Str)) (l.map λc=>[c])=l;have e:TL.tl ("":Str)=[]:=by decide+kernel
 rw [e]
 induction l with
 |nil=>rfl
 |cons c r ih=>
  cases r with
  |nil=>rfl
  |cons d t=>
   show [c]++[]++TL.aeH [] ((d::t).map λc=>[c])=c::d::t;rw [ih];rfl
theorem XQ(T:Txt P w K mg A):fU P w K mg base mU 1 A.Ug A.Bq M7 (afQ K):=(by apply aj:aa (by
 refine T.Fg.ok wF (λvs H Q E h=>?_) (λcdv A' outer s H vs Q E hr h=>?_)
 ·obtain ⟨a,l,rfl,_⟩:=h;rfl
 ·obtain ⟨a,l,rfl,hs,hz,k⟩:=h;refine ⟨_,(aL (lL 1 wF.nd (TX (agQ rfl) rfl T.ao3 boot_dict (aq (yU rfl wF.nd (XC (fC Hs (fC Hs (fC Hs (bH T.Uc) (bH T.Yr)) (bH T.O9)) (bH T.aeE))) (iJ (N:=Uw) (sc:=aX Fl) (own:=[("sign",2)]) (by decide+kernel)) (λ_ _ _ _ _=>(eZ (i:=2) wF.nd rfl (dZ rfl) (hf:=gF rfl))) (λ_ _ _ _ _=>kJ) (λ_ _ _ _ _=>(aoV (aq (cH Y6 rfl T.alr boot_ord (aq (pv 2) aG)) (aq (pv 2) aG))))) aG)))
   (aK (bB (am4 pI (yU rfl wF.nd (uU (pv 0)) (iJ (N:=Uw) (sc:=aX Fl) (own:=[("byte",3)]) (by decide+kernel)) (λ_ _ _ _ _=>(eZ (i:=3) wF.nd rfl (dZ rfl) (hf:=gF rfl))) (λ_ _ _ _ _=>kJ) (λ_ _ _ _ _=>(aec (hu1 hr) (pv 1) (pv 3) (bH T.ajq) ⟨rfl,rfl,rfl,rfl⟩))))))),?_⟩
  walk_at "rd";refine ⟨_,rfl,_,rfl,by decide+kernel,_,rfl,_,rfl,by decide+kernel,_,rfl,_,rfl,by decide+kernel,allSigns,rfl,agp (by decide+kernel) ?_ ?_⟩
  ·intro i c H1 R hc h;walk_at "rd";exact ⟨rfl,by decide,h⟩
  ·intro D H1 ps hD s1 hd hp;refine ⟨D,rfl,ps,cY.of hd,_,Paired.imp' (λp kv h=>Ol.of h) hp,λd hdn=>?_⟩;have em:Bl [] (mQ allSigns.cps.toList)=mQ allSigns.cps.toList:=aa3 _ [] Za;rw [em];have s2:bh H1 (upd H1 d (.dK (mQ allSigns.cps.toList))):=bh.new hdn;have hdd:upd H1 d (.dK (mQ allSigns.cps.toList)) d=some (.dK (mQ allSigns.cps.toList)):=aD;generalize upd H1 d (.dK (mQ allSigns.cps.toList))=H2 at s2 hdd;have s3:=s1.trans s2;have hs2:=s3.seq hs;refine ⟨a,rfl,⟨_,hs2⟩,FJ al5 hs2 (by rw [ao];exact aY hz (by decide)) ?_ ?_⟩
   ·intro i x H3 R hx s4 h;obtain ⟨c,hc,rfl⟩:=Gi hx;walk_at "rd";refine ⟨.inl ⟨_,.inl (s4 _ _ hdd)⟩,_,Et.k (k:=qZ (c:Int)) (s4 _ _ hdd),?_⟩;rw [adQ];have e:(if c∈allSigns.cps.toList then some (V.str ⟨#[c]⟩) else none).getD (V.str "?")=al5 (.int (c:Int)):=by
     show _=V.str ⟨#[sg c]⟩;unfold sg;by_cases hk:known c=true
     ·rw [if_pos ((Sg c).mpr hk),if_pos hk];rfl
     ·rw [if_neg (λz=>hk ((Sg c).mp z)),if_neg hk];show V.str _=V.str _;congr 1
    rw [e];exact h H3 (bh.refl H3)
   ·intro D2 H3 hD2 s4 h;have e1:(bV l).map al5=((l.map sg).map λc=>(⟨#[c]⟩:Str)).map V.str:=by
     rw [cG,cG,cG];rfl
    rw [e1] at h;refine ⟨D2,rfl,_,.inl (cY.of h),?_,?_⟩
    ·have e2:((l.map sg).map λc=>(⟨#[c]⟩:Str)).map (λx=>x.length)=bx l.length 1:=by
      rw [cG,cG];exact List.map_const' ..
     rw [e2,ao,ao];have e3:(bA "").length=0:=by decide+kernel
     rw [e3];simp;omega
    ·rw [agu];exact k H3 (s3.trans s4)))
abbrev wV(u:List Nat):V:=.str (tx (u.map sg))
abbrev Q0(ws:List (List Nat)):List V:=ws.map wV
inductive adK(K:az)(vs:List V)(H:Hp)(Q:VK)(E:XK):Prop
 |mk (a:Addr) (l:List Nat) (_:vs=[.ref a]) (_:cY K H a (bV l)) (_:l.length<=10000) (_:∀D H',H D=none->bh H H'->H' D=some (.lst (Q0 (fX l)))->Q (.ref D) H')
theorem adI(l:List Nat):yW (tx (l.map sg)) (" ":Str)=(TL.Jo [32] 0 [] (l.map sg)).map tx:=by
 apply TL.Yb;have e1:TL.tl (" ":Str)=[32]:=by decide+kernel
 rw [TL.aiL _ _ (by rw [e1];simp) (TL.anl (by decide+kernel)),e1,cG];show _=(TL.Jo [32] 0 [] (l.map sg)).map λu=>(tx u).cps.toList
 exact (List.map_id _).symm
theorem Tn(S:List Nat):∀(l acc:List Nat),(TL.Jo [32] 0 acc l).length<=l.length+1
 |[],acc=>by rw [TL.V8];simp
 |c::r,acc=>by
  by_cases h:TL.pre [32] (c::r)=true
  ·rw [TL.abL h];have:=Tn S r [];show (TL.Jo [32] 0 [] r).length+1<=r.length+1+1;omega
  ·rw [TL.W6 (by simpa using h)];have:=Tn S r (acc++[c]);show _<=r.length+1+1;omega
noncomputable def aoa:V->Bool
 |.str z=>decide (z≠("":Str))
 |_=>false
theorem aeh(T:Txt P w K mg A):fU P w K mg base mU 2 A.Qm A.yd Hk (adK K):=(by apply aj:aa (by
 have Uz:=XQ (base:=base) T;refine T.Gr.ok Ka (λvs H Q E h=>?_) (λcdv A' outer s H vs Q E hr h=>?_)
 ·obtain ⟨a,l,rfl,_⟩:=h;rfl
 ·obtain ⟨a,l,rfl,hs,hz,k⟩:=h;refine ⟨_,(aK (bB (yU rfl Ka.nd (uU (ald (cJ Uz (hr.mono (by decide)) rfl T.aba T.Fg.kp T.N5 .nil dz (aq (pv 0) aG)) (bH T.O9))) (iJ (N:=Zd) (sc:=aX GZ) (own:=[("word",1)]) (by decide+kernel)) (λ_ _ _ _ _=>(eZ (i:=1) Ka.nd rfl (dZ rfl) (hf:=gF rfl))) (λ_ _ _ _ _=>ahG (bZ ahM (pv 1) pI (cP _))) (λ_ _ _ _ _=>(pv 1))))),?_⟩;walk_at "rd";refine ⟨a,l,rfl,hs,hz,λH1 s1=>?_⟩;refine ⟨⟨_,rfl⟩,_,rfl,_,rfl,by decide+kernel,?_,λp hp=>?_⟩
  ·rw [Th,ao];exact aY (akD hz 2) (by decide)
  ·rw [adI];have s2:bh H1 (upd H1 p (.lst (((TL.Jo [32] 0 [] (l.map sg)).map tx).map V.str))):=bh.new hp;have hd:upd H1 p (.lst (((TL.Jo [32] 0 [] (l.map sg)).map tx).map V.str)) p=some (.lst (((TL.Jo [32] 0 [] (l.map sg)).map tx).map V.str)):=aD;generalize upd H1 p (.lst (((TL.Jo [32] 0 [] (l.map sg)).map tx).map V.str))=H2 at s2 hd;have hcount:=Tn [] (l.map sg) [];rw [ao] at hcount;refine ⟨p,rfl,⟨_,cY.of hd⟩,Ye aoa (λv=>v) (cY.of hd) ?_ ?_ ?_ ?_⟩
   ·rw [ao,ao];exact aY hcount (aY (akD hz 1) (by decide))
   ·intro i x H3 R hx s3 h;obtain ⟨u,hu,rfl⟩:∃u,(TL.Jo [32] 0 [] (l.map sg))[i]? =some u/\x=V.str (tx u):=by
     rw [aW,aW] at hx;cases e:(TL.Jo [32] 0 [] (l.map sg))[i]? with
     |none=>rw [e] at hx;cases hx
     |some u=>rw [e] at hx;exact ⟨u,rfl,(aB hx).symm⟩
    walk_at "rd";refine ⟨rfl,?_⟩;have h2:=h H3 (bh.refl H3);have e:aoa (V.str (tx u))= !decide (V.str (tx u)=V.str ("":Str)):=by
     show decide (tx u≠("":Str))=_;by_cases q:tx u=("":Str)
     ·rw [q];simp
     ·simp [q]
    rw [e] at h2;have e3:decide (V.str (tx u)=V.str ("":Str))=decide (tx u=("":Str)):=by simp only [V.str.injEq]
    rw [e3] at h2;exact ⟨_,(j8 _).symm,h2⟩
   ·intro i x H3 R hx hp3 s3 h;walk_at "rd";exact h H3 (bh.refl H3)
   ·intro D H3 hD s3 h;refine k D H3 ((s1.trans s2).free hD) ((s1.trans s2).trans s3) ?_;rw [h];congr 2;have e1:((TL.Jo [32] 0 [] (l.map sg)).map tx).map V.str=(TL.Jo [32] 0 [] (l.map sg)).map λu=>V.str (tx u):=cG ..;have e2:Q0 (fX l)=((fX l).map (·.map sg)).map λu=>V.str (tx u):=by
     rw [cG];rfl
    rw [e1,e2,<-aiM,List.map_id',List.filter_map];congr 2;funext u;show decide (tx u≠("":Str))= !u.isEmpty;cases u with
    |nil=>
     have:tx []=("":Str):=by decide+kernel
     rw [this];simp
    |cons c r=>
     have:tx (c::r)≠("":Str):=λz=>by
      have z2:(tx (c::r)).cps.toList=("":Str).cps.toList:=by rw [z]
      have z3:("":Str).cps.toList=[]:=by decide+kernel
      rw [z3] at z2;cases z2
     simp [this]))
inductive afR(vs:List V)(H:Hp)(Q:VK)(E:XK):Prop
 |mk (u:List Nat) (_:vs=[.str (tx u)]) (_:u.length<=10000) (_:∀H',bh H H'->Q (.bl (bj u)) H')
noncomputable def gAl:V->V
 |.str z=>.bl (decide (z.cps.getD 0 0∈(("abcdefghijklmnopqrstuvwxyz":Str)++"0123456789").cps.toList))
 |_=>.non
theorem akR:tx []=("":Str):=by decide+kernel
theorem WR(c:Nat)(r:List Nat):¬tx (c::r)=("":Str):=λz=>by
 have z2:(tx (c::r)).cps.toList=("":Str).cps.toList:=by rw [z]
 have z3:("":Str).cps.toList=[]:=by decide+kernel
 rw [z3] at z2;cases z2
theorem aj2(c:Nat):decide (c∈(("abcdefghijklmnopqrstuvwxyz":Str)++"0123456789").cps.toList)=(lG c || dj c):=by
 have e:(("abcdefghijklmnopqrstuvwxyz":Str)++"0123456789").cps.toList=("abcdefghijklmnopqrstuvwxyz":Str).cps.toList++("0123456789":Str).cps.toList:=TL.Ti _ _;rw [e,iy,decide_eq_true_eq,d8,KR,YX,Cy]
theorem af6(T:Txt P w K mg A):fU P w K mg base mU 1 A.Uh A.Br M8 afR:=(by apply aj:aa (by
 refine T.Mv.ok PL (λvs H Q E h=>?_) (λcdv A' outer s H vs Q E hr h=>?_)
 ·obtain ⟨u,rfl,_⟩:=h;rfl
 ·obtain ⟨u,rfl,hz,k⟩:=h;refine ⟨_,(aL (dW (PW.pt (pw_or (bZ oN (pv 0) pI (cP _)) (pw_or (bZ O2 (cH Ie rfl T.jG bI (aq (pv 0) aG)) (bH T.aav) (cP _)) (pw_or1 (bZ aai (iG alE (pv 0) bG (λ_ _=>rfl)) (bH T.Uc) rfl))))) (aK (bB Js)) b7)
   (aK (bB (cH (Y4 rfl) rfl T.aev boot_all (aq (yU rfl PL.nd (XC (pv 0)) (iJ (N:=abt) (sc:=aX MT) (own:=[("sign",1)]) (by decide+kernel)) (λ_ _ _ _ _=>(eZ (i:=1) PL.nd rfl (dZ rfl) (hf:=gF rfl))) (λ_ _ _ _ _=>kJ) (λ_ _ _ _ _=>(nZ XM (pv 1) (fC Hs (bH T.Uc) (bH T.Yr)) rfl))) aG))))),?_⟩
  walk_at "rd";refine ⟨rfl,?_⟩;cases u with
  |nil=>
   rw [if_pos akR];exact k H (bh.refl H)
  |cons c r=>
   rw [if_neg (WR c r),Th];refine ⟨aY hz (by decide),?_⟩;by_cases h8:8<(c::r).length
   ·rw [if_pos (by omega)];have e:bj (c::r)=false:=by
     unfold bj;rw [decide_eq_false (by omega),gj,gj]
    rw [e] at k;exact k H (bh.refl H)
   ·rw [if_neg (by omega)];refine ⟨aY hz (by decide),c,fH (j:=0) rfl,c,rfl,!decide (c∈(bA "abcdefghijklmnopqrstuvwxyz").cps.toList),by rw [j8],?_⟩;by_cases hc:c∈(bA "abcdefghijklmnopqrstuvwxyz").cps.toList
    ·rw [decide_eq_true hc];simp only [gV,cD,↓reduceIte];refine ⟨_,rfl,Wf gAl (by show (c::r).toArray.size<=_;rw [bN];exact aY hz (by decide)) ?_ ?_⟩
     ·intro i d H1 R hd s1 h;walk_at "rd";exact ⟨by decide+kernel,d,rfl,h H1 (bh.refl H1)⟩
     ·intro D H1 hD s1 h;have e1:((tx (c::r)).cps.toList.map λd=>gAl (.str ⟨#[d]⟩))=((c::r).map λd=>lG d || dj d).map V.bl:=by
       rw [cG];apply gm;intro d _;exact congrArg V.bl (aj2 d)
      rw [e1] at h;refine ⟨D,rfl,_,cY.of h,?_⟩;have e:bj (c::r)=((c::r).map λd=>lG d || dj d).all id:=by
       unfold bj;rw [decide_eq_true (by omega),dF,tR];have:(c::r).head?.any lG=true:=(KR c).mp hc;rw [this,dJ];rfl
      rw [<-e];exact k H1 s1
    ·rw [decide_eq_false hc];simp only [gn,↓reduceIte];have e:bj (c::r)=false:=by
      unfold bj;have:(c::r).head?.any lG=false:=by
       show lG c=false;cases q:lG c with
       |false=>rfl
       |true=>exact absurd ((KR c).mpr q) hc
      rw [this,eO]
     rw [e] at k;exact k H (bh.refl H)))
inductive Z6(vs:List V)(H:Hp)(Q:VK)(E:XK):Prop
 |mk (u:List Nat) (_:vs=[.str (tx u)]) (_:u.length<=10000) (_:∀H',bh H H'->Q (.bl (aN u)) H')
noncomputable def gDg:V->V
 |.str z=>.bl (decide (z.cps.getD 0 0∈("0123456789":Str).cps.toList))
 |_=>.non
theorem O4(T:Txt P w K mg A):fU P w K mg base mU 1 A.HJ A.rY zM Z6:=(by apply aj:aa (by
 refine T.uG.ok DK (λvs H Q E h=>?_) (λcdv A' outer s H vs Q E hr h=>?_)
 ·obtain ⟨u,rfl,_⟩:=h;rfl
 ·obtain ⟨u,rfl,hz,k⟩:=h;refine ⟨_,(aL (dW (PW.pt (pw_or (bZ oN (pv 0) pI (cP _)) (pw_or1 (bZ O2 (cH Ie rfl T.jG bI (aq (pv 0) aG)) (bH T.T9) (cP _))))) (aK (bB Js)) b7)
   (aL (dW (kO (lN (cH (Y4 rfl) rfl T.aev boot_all (aq (yU rfl DK.nd (XC (pv 0)) (iJ (N:=Sq) (sc:=aX zA) (own:=[("sign",1)]) (by decide+kernel)) (λ_ _ _ _ _=>(eZ (i:=1) DK.nd rfl (dZ rfl) (hf:=gF rfl))) (λ_ _ _ _ _=>kJ) (λ_ _ _ _ _=>(nZ XM (pv 1) (bH T.Yr) rfl))) aG)))) (aK (bB Js)) b7)
   (aK (bB (ale (nZ oN (pv 0) pI (cP _)) (acf (nZ ahM (iG alE (pv 0) bG (λ_ _=>rfl)) pI (cP _)))))))),?_⟩
  walk_at "rd";refine ⟨rfl,?_⟩;cases u with
  |nil=>
   rw [if_pos akR];exact k H (bh.refl H)
  |cons c r=>
   rw [if_neg (WR c r),Th];refine ⟨aY hz (by decide),?_⟩;by_cases h19:19<(c::r).length
   ·rw [if_pos (by omega)];have e:aN (c::r)=false:=by
     unfold aN;rw [decide_eq_false (by omega),eO,gj]
    rw [e] at k;exact k H (bh.refl H)
   ·rw [if_neg (by omega)];refine ⟨_,rfl,Wf gDg (by show (c::r).toArray.size<=_;rw [bN];exact aY hz (by decide)) ?_ ?_⟩
    ·intro i d H1 R hd s1 h;walk_at "rd";exact ⟨d,rfl,h H1 (bh.refl H1)⟩
    ·intro D H1 hD s1 h;have e1:((tx (c::r)).cps.toList.map λd=>gDg (.str ⟨#[d]⟩))=((c::r).map dj).map V.bl:=by
      rw [cG];apply gm;intro d _;show V.bl (decide (d∈("0123456789":Str).cps.toList))=V.bl (dj d);congr 1;have q:=YX d;by_cases hd:dj d=true
      ·rw [decide_eq_true (q.mpr hd),hd]
      ·rw [decide_eq_false (λz=>hd (q.mp z))];simp [hd]
     rw [e1] at h;refine ⟨D,rfl,_,cY.of h,?_⟩;have k1:=k H1 s1;have ea:((c::r).map dj).all id=(c::r).all dj:=by rw [tR];rfl
     have en:aN (c::r)=((c::r).all dj&&(decide ((c::r).length=1) || (some c != some 48))):=by
      unfold aN;rw [decide_eq_true (by omega)];rfl
     rw [en] at k1;rw [ea];cases hA:(c::r).all dj with
     |false=>
      rw [hA,eO] at k1;simp only [↓reduceIte];exact k1
     |true=>
      rw [hA,dJ] at k1;simp only [Bool.true_eq_false,↓reduceIte];refine ⟨rfl,?_⟩;have e0:("0":Str)=tx [48]:=by decide+kernel
      rw [e0];by_cases h0:tx (c::r)=tx [48]
      ·rw [if_pos h0];have q:=Pz h0;rw [q] at k1;exact k1
      ·rw [if_neg h0];refine ⟨aY hz (by decide),c,fH (j:=0) rfl,rfl,?_⟩;have e2:(decide ((c::r).length=1) || (some c != some 48))= !decide ((⟨#[c]⟩:Str)=tx [48]):=by
        by_cases hc:c=48
        ·subst hc;have hl:¬(48::r).length=1:=λz=>h0 (by
          have:r=[]:=ahg.mp (by simpa using z);rw [this])
         rw [decide_eq_false hl];have:(⟨#[48]⟩:Str)=tx [48]:=rfl;rw [decide_eq_true this];rfl
        ·have n1:¬(⟨#[c]⟩:Str)=tx [48]:=λz=>hc (by
          have:=Pz (u:=[c]) (v:=[48]) z;simpa using this)
         rw [decide_eq_false n1];have:(some c != some 48)=true:=by simp [bne,hc]
         rw [this,Bool.or_true];rfl
       rw [e2] at k1;exact k1))
noncomputable def iD (g m:Nat) (p:Str):List Str:=
 if p="each metal" then bx m "numeral" else if p="pairs" then bx (max 2 (g+g%2)) "numeral" else if p="anything" then bx g "anything" else [p]
noncomputable def want (g m:Nat) (fs:List Str):List Str:=fs.flatMap (iD g m)
theorem aiy(g m:Nat)(fs:List Str)(p:Str):want g m (fs++[p])=want g m fs++iD g m p:=by
 unfold want;rw [oF];simp
theorem aiz(g m:Nat)(p:Str):(iD g m p).length<=g+m+3:=by
 unfold iD;split
 ·rw [mD];omega
 ·split
  ·rw [mD];omega
  ·split
   ·rw [mD];omega
   ·simp
theorem WM(g m:Nat):∀fs:List Str,(want g m fs).length<=fs.length*(g+m+3)
 |[]=>by simp [want]
 |p::r=>by
  have h1:=aiz g m p;have h2:=WM g m r;have e:want g m (p::r)=iD g m p++want g m r:=rfl;rw [e,aJ,aH,Nat.add_mul];omega
inductive Vz(K:az)(vs:List V)(H:Hp)(Q:VK)(E:XK):Prop
 |mk (a:Addr) (fs:List Str) (g m:Nat) (_:vs=[.ref a,.int (g:Int),.int (m:Int)]) (_:KT K a (fs.map V.str)) (_:fs.length<=10) (_:g<=10000) (_:m<=100) (_:∀D H',H D=none->bh H H'->H' D=some (.lst ((want g m fs).map V.str))->Q (.ref D) H')
theorem an4{fs:List Str}{i:Nat}{x:V}(h:(fs.map V.str)[i]? =some x):∃p,fs[i]? =some p/\x= .str p:=by
 rw [aW] at h;cases e:fs[i]? with
 |none=>rw [e] at h;cases h
 |some c=>rw [e] at h;exact ⟨c,rfl,(aB h).symm⟩
theorem VM(T:Txt P w K mg A):fU P w K mg base mU 1 A.Bx A.oO uX (Vz K):=(by apply aj:aa (by
 refine T.uD.ok yu (λvs H Q E h=>?_) (λcdv A' outer s H vs Q E hr h=>?_)
 ·obtain ⟨a,fs,g,m,rfl,_⟩:=h;rfl
 ·obtain ⟨a,fs,g,m,rfl,hk,hf,hg,hm,k⟩:=h;refine ⟨_,(aL (lL 3 yu.nd (cZ aG))
   (aL (Hi ji rfl (alb (pv 0)) (eZ (i:=4) yu.nd rfl (dZ rfl)) (aK (dW (bZ oN (pv 4) pI (cP _)) (aK (jn (rM bY fj fc nA (pv 3) (aq (fC XH (cZ (aq pI aG)) (pv 2)) aG)))) (aK (dW (bZ oN (pv 4) pI (cP _)) (aK (jn (rM bY fj fc nA (pv 3) (aq (fC XH (cZ (aq pI aG)) (cH (abi rfl) rfl T.ahS boot_max (aq bG (aq (fC kW (pv 1) (fC alg (pv 1) bG)) aG)))) aG)))) (aK (dW (bZ oN (pv 4) pI (cP _)) (aK (jn (rM bY fj fc nA (pv 3) (aq (fC XH (cZ (aq pI aG)) (pv 1)) aG)))) (aK (jn (rM bY gR gQ uo (pv 3) (aq (pv 4) aG)))))))))))
   (aK (bB (pv 3))))),?_⟩
  walk_at "rd";refine ⟨eX _,λD hD=>?_⟩;refine ⟨a,rfl,⟨_,hk.sq⟩,anK (K:=K) (a:=a) (xs:=fs.map V.str) (λi σ H'=>∃v,σ=[some (.ref a),some (.int (g:Int)),some (.int (m:Int)),some (.ref D),v]/\bh H H'/\H' D=some (.lst ((want g m (fs.take i)).map V.str))) ⟨_,rfl,bh.new hD,aD⟩ (λi σ H' _ _=>hk.sq) ?_ ?_⟩
  ·rintro i x σ H1 hx ⟨v,rfl,s1,hd⟩;obtain ⟨p,hp,rfl⟩:=an4 hx;have hi:i<fs.length:=(aQ.mp hp).1;have hw:=WM g m (fs.take i);rw [bO] at hw;have hw2:(min i fs.length)*(g+m+3)<=10*(g+m+3):=QS _ (by omega);have hsl:sizeLine=16777216:=sizeLine_eq;rw [take_succ hp,aiy];have go:∀(z:Int) (n:Nat) (t:Str),z=(n:Int)->n<=20010->∀p_1,H1 p_1=none->∃x,upd H1 p_1 (HO.lst [V.str t]) p_1=some (HO.lst x)/\ -2^63<=z/\z<2^63/\x.length*z.toNat<=sizeLine/\
     ∀p_2,upd H1 p_1 (HO.lst [V.str t]) p_2=none->∃x_1,upd (upd H1 p_1 (HO.lst [V.str t])) p_2 (HO.lst (bx z.toNat x).flatten) D=some (HO.lst x_1)/\
      ∃x_2,upd (upd H1 p_1 (HO.lst [V.str t])) p_2 (HO.lst (bx z.toNat x).flatten) p_2=some (HO.lst x_2)/\x_1.length+x_2.length<=sizeLine/\
       bh H (upd (upd (upd H1 p_1 (HO.lst [V.str t])) p_2 (HO.lst (bx z.toNat x).flatten)) D (HO.lst (x_1++x_2)))/\
       upd (upd (upd H1 p_1 (HO.lst [V.str t])) p_2 (HO.lst (bx z.toNat x).flatten)) D (HO.lst (x_1++x_2)) D=some (HO.lst ((want g m (fs.take i)++bx n t).map V.str)):=by
    intro z n t ez hn p1 h1;subst ez;have n1:D≠p1:=fK hd h1;have er:((bx ((n:Int).toNat) [V.str t]).flatten)=(bx n t).map V.str:=by
     rw [gA,List.map_replicate]
     induction n with
     |zero=>rfl
     |succ n ih=>rw [fM,mY,ih (by omega),fM];rfl
    refine ⟨_,aD,by omega,by omega,?_,λp2 h2=>?_⟩
    ·rw [gA];simp only [aH,bF];omega
    ·have n2:D≠p2:=by
      intro q;rw [<-q,aF n1,hd] at h2;cases h2
     refine ⟨_,by rw [aF n2,aF n1];exact hd,_,aD,?_,?_,?_⟩
     ·rw [er,ao,ao,mD];omega
     ·exact bh.put ((s1.trans (bh.new h1)).trans (bh.new h2)) hD
     ·rw [aD,er,cT]
   walk_at "rd";refine ⟨rfl,?_⟩;have tyD:tyV K "list" (V.ref D) H1:=.inl ⟨rfl,_,cY.of hd⟩;by_cases e1:p="each metal"
   ·have ew:iD g m p=bx m ("numeral":Str):=by unfold iD;rw [if_pos e1]
    rw [if_pos e1,ew];exact ⟨tyD,by decide,go _ m _ rfl (by omega)⟩
   ·rw [if_neg e1];refine ⟨rfl,?_⟩;by_cases e2:p="pairs"
    ·have ew:iD g m p=bx (max 2 (g+g%2)) ("numeral":Str):=by unfold iD;rw [if_neg e1,if_pos e2]
     rw [if_pos e2,ew];refine ⟨tyD,by decide,λp1 h1=>⟨by decide,2,_,⟨rfl,rfl⟩,go _ (max 2 (g+g%2)) _ ?_ (by omega) p1 h1⟩⟩;split<;>omega
    ·rw [if_neg e2];refine ⟨rfl,?_⟩;by_cases e3:p="anything"
     ·have ew:iD g m p=bx g ("anything":Str):=by unfold iD;rw [if_neg e1,if_neg e2,if_pos e3]
      rw [if_pos e3,ew];exact ⟨tyD,by decide,go _ g _ rfl (by omega)⟩
     ·have ew:iD g m p=[p]:=by unfold iD;rw [if_neg e1,if_neg e2,if_neg e3]
      rw [if_neg e3,ew];refine ⟨tyD,_,hd,by rw [ao];omega,bh.put s1 hD,?_⟩;rw [aD,cT];rfl
  ·rintro σ H1 ⟨v,rfl,s1,hd⟩;walk_at "rd";rw [ao,lM] at hd;exact k D H1 hD s1 hd))
noncomputable def FN:List Str:=["ground","pile","plant","waste","sold"]
noncomputable def ju (u:List Nat) (p:Str):Bool:=if p="name" then bj u else if p="kind" then decide (tx u∈FN) else if p="numeral" then aN u else true
inductive amQ(vs:List V)(H:Hp)(Q:VK)(E:XK):Prop
 |mk (u:List Nat) (p:Str) (_:vs=[.str (tx u),.str p]) (_:u.length<=10000) (_:∀H',bh H H'->Q (.bl (ju u p)) H')
theorem Yv(z:Str)(ws:List Str):inV (.str z) (ws.map V.str)=decide (z∈ws):=(by apply aj:aa (by
 unfold inV;rw [iy,JX,decide_eq_true_eq];constructor
 ·rintro ⟨v,hv,h⟩;obtain ⟨y,hy,rfl⟩:=cF.mp hv;have e:z=y:=by
   simp only [eqV] at h
   first | exact (of_decide_eq_true h).symm | exact of_decide_eq_true h | exact (eq_of_beq h).symm | exact eq_of_beq h
  rw [e];exact hy
 ·intro h;exact ⟨.str z,cF.mpr ⟨z,h,rfl⟩,by simp [eqV]⟩))
theorem am7(T:Txt P w K mg A):fU P w K mg base mU 2 A.agJ A.RT acn amQ:=(by apply aj:aa (by
 have akc:=af6 (base:=base) T;have Jc:=O4 (base:=base) T;refine T.abA.ok amU (λvs H Q E h=>?_) (λcdv A' outer s H vs Q E hr h=>?_)
 ·obtain ⟨u,p,rfl,_⟩:=h;rfl
 ·obtain ⟨u,p,rfl,hz,k⟩:=h;refine ⟨_,(aL (dW (bZ oN (pv 1) pI (cP _)) (aK (bB (cJ akc (hr.mono (by decide)) rfl T.ajD T.Mv.kp T.Uq .nil dz (aq (pv 0) aG)))) b7)
   (aL (dW (bZ oN (pv 1) pI (cP _)) (aK (bB (nZ Ni (pv 0) (bH T.acF) rfl))) b7)
   (aL (dW (bZ oN (pv 1) pI (cP _)) (aK (bB (cJ Jc (hr.mono (by decide)) rfl T.RQ T.uG.kp T.zZ .nil dz (aq (pv 0) aG)))) b7)
   (aK (bB Js))))),?_⟩
  walk_at "rd";unfold ju at k;refine ⟨rfl,?_⟩;by_cases e1:p="name"
  ·rw [if_pos e1];rw [if_pos e1] at k;exact ⟨u,rfl,hz,k⟩
  ·rw [if_neg e1];rw [if_neg e1] at k;refine ⟨rfl,?_⟩;by_cases e2:p="kind"
   ·rw [if_pos e2];rw [if_pos e2] at k;refine ⟨_,.inr T.V7.sq,rfl,rfl,?_⟩;have e:=Yv (tx u) FN;have k1:=k H (bh.refl H);rw [<-e] at k1;exact k1
   ·rw [if_neg e2];rw [if_neg e2] at k;refine ⟨rfl,?_⟩;by_cases e3:p="numeral"
    ·rw [if_pos e3];rw [if_pos e3] at k;exact ⟨u,rfl,hz,k⟩
    ·rw [if_neg e3];rw [if_neg e3] at k;exact k H (bh.refl H)))
noncomputable def forms:List (Str×List Str):=[("user",["name","numeral"]),("metal",["name"]),("place",["name","kind"]),("open",["name","numeral","each metal"]),("move",["name","name","numeral"]),("ship",["name","name","numeral","each metal"]),("back",["numeral"]),("close",[]),("scale",["pairs"]),("note",["anything"])]
noncomputable def wA (c:Str) (us:List (List Nat)) (m:Nat):Bool:=match forms.lookup c with
 |none=>false
 |some fs=>decide ((want us.length m fs).length=us.length)&&(bM ju us (want us.length m fs)).all id
noncomputable abbrev usV (us:List (List Nat)):List V:=us.map λu=>V.str (tx u)
inductive Z5(K:az)(vs:List V)(H:Hp)(Q:VK)(E:XK):Prop
 |mk (c:Str) (a:Addr) (us:List (List Nat)) (m:Nat) (_:vs=[.str c,.ref a,.int (m:Int)]) (_:cY K H a (usV us)) (_:us.length<=10000) (_:(∀u∈us,u.length<=10000)) (_:m<=100) (_:∀H',bh H H'->Q (.bl (wA c us m)) H')
noncomputable def ah5:V->V->V
 |.str z,.str p=>.bl (ju z.cps.toList p)
 |_,_=>.non
theorem aaU{α:Type}(c:Str):∀es:List (Str×Addr×α),((es.map λe=>(e.1,e.2.2)).lookup c=none/\m7 (es.map λe=>((bW e.1:Key),V.ref e.2.1)) (bW c)=none)\/
  ∃e∈es,e.1=c/\(es.map λe=>(e.1,e.2.2)).lookup c=some e.2.2/\m7 (es.map λe=>((bW e.1:Key),V.ref e.2.1)) (bW c)=some (V.ref e.2.1)
 |[]=>.inl ⟨rfl,rfl⟩
 |e::r=>by
  by_cases h:e.1=c
  ·refine .inr ⟨e,bz ..,h,?_,?_⟩
   ·rw [bu,iC];have:(c==e.1)=true:=by rw [h];exact beq_self_eq_true c
    simp only [this]
   ·rw [bu];exact xT (p:=((bW e.1:Key),V.ref e.2.1)) (by rw [h])
  ·have h1:(c==e.1)=false:=beq_eq_false_iff_ne.mpr λz=>h z.symm;have h2:¬(bW e.1:Key)=bW c:=λz=>h (QL z);have l1:((e::r).map λe=>(e.1,e.2.2)).lookup c=(r.map λe=>(e.1,e.2.2)).lookup c:=by
    rw [bu,iC];simp only [h1]
   have l2:m7 ((e::r).map λe=>((bW e.1:Key),V.ref e.2.1)) (bW c)=m7 (r.map λe=>((bW e.1:Key),V.ref e.2.1)) (bW c):=by
    rw [bu];exact xU (p:=((bW e.1:Key),V.ref e.2.1)) h2
   rw [l1,l2];rcases aaU c r with q | ⟨x,hx,q⟩
   ·exact .inl q
   ·exact .inr ⟨x,aV _ hx,q⟩
noncomputable def YH (A:uw):List (Str×Addr×List Str):=[("user",A.Iz,["name","numeral"]),("metal",A.Eo,["name"]),("place",A.En,["name","kind"]),("open",A.IV,["name","numeral","each metal"]),("move",A.Ja,["name","name","numeral"]),("ship",A.IK,["name","name","numeral","each metal"]),("back",A.Jb,["numeral"]),("close",A.Ep,[]),("scale",A.Em,["pairs"]),("note",A.IW,["anything"])]
theorem anJ(T:Txt P w K mg A):∀e∈YH A,KT K e.2.1 (e.2.2.map V.str)/\e.2.2.length<=10:=(by apply aj:aa (by
 intro e he;simp only [YH,bc,bU,or_false] at he;rcases he with rfl | rfl | rfl | rfl | rfl | rfl | rfl | rfl | rfl | rfl
 ·exact ⟨T.abE,by simp⟩
 ·exact ⟨T.ZW,by simp⟩
 ·exact ⟨T.ZV,by simp⟩
 ·exact ⟨T.abG,by simp⟩
 ·exact ⟨T.abI,by simp⟩
 ·exact ⟨T.abF,by simp⟩
 ·exact ⟨T.abJ,by simp⟩
 ·exact ⟨T.ZX,by simp⟩
 ·exact ⟨T.ZS,by simp⟩
 ·exact ⟨T.abH,by simp⟩))
theorem ah6(T:Txt P w K mg A):KD P w K A.ac1 ((YH A).map λe=>((bW e.1:Key),V.ref e.2.1)):=T.anO
theorem aou{us:List (List Nat)}{i:Nat}{x:V}(h:(usV us)[i]? =some x):∃u,us[i]? =some u/\x= .str (tx u):=by
 rw [aW] at h;cases e:us[i]? with
 |none=>rw [e] at h;cases h
 |some c=>rw [e] at h;exact ⟨c,rfl,(aB h).symm⟩
theorem adv:∀(us:List (List Nat)) (ps:List Str),bM ah5 (usV us) (ps.map V.str)=(bM ju us ps).map V.bl
 |[],_=>by simp
 |_::_,[]=>by simp
 |u::us,p::ps=>by
  show ah5 (.str (tx u)) (.str p)::bM ah5 (usV us) (ps.map V.str)=V.bl (ju u p)::(bM ju us ps).map V.bl;rw [adv us ps];rfl
theorem aam(T:Txt P w K mg A):fU P w K mg base mU 3 A.HH A.rW zL (Z5 K):=(by apply aj:aa (by
 have apZ:=am7 (base:=base) T;have Zt:=VM (base:=base) T;refine T.zm.ok rJ (λvs H Q E h=>?_) (λcdv A' outer s H vs Q E hr h=>?_)
 ·obtain ⟨c,a,us,m,rfl,_⟩:=h;rfl
 ·obtain ⟨c,a,us,m,rfl,hs,hz,hzz,hm,k⟩:=h;refine ⟨_,(aL (dW (afZ (ai2 (pv 0) (bH T.ahX))) (aK (bB Js)) b7)
   (aL (lL 3 rJ.nd (cJ Zt (hr.mono (by decide)) rfl T.Yz T.uD.kp T.BW .nil dz (aq (ahK (bH T.ahX) (pv 0) (λ_ _=>rfl)) (aq (cH cW rfl T.jG bI (aq (pv 1) aG)) (aq (pv 2) aG)))))
   (aL (dW (bZ ahM (cH cW rfl T.jG bI (aq (pv 3) aG)) (cH cW rfl T.jG bI (aq (pv 1) aG)) (cP _)) (aK (bB Js)) b7)
   (aK (bB (cH (Y4 rfl) rfl T.aev boot_all (aq (yU rfl rJ.nd (Xz rfl T.aa1 (aq (pv 1) (aq (pv 3) aG))) (iJ (N:=Sh) (sc:=aX zy) (own:=[("word",4),("part",5)]) (by decide+kernel)) (λ_ _ _ _ _=>(uW (K:=K) (n:=2) rfl rfl (g8 (eZ (i:=4) rJ.nd rfl (dZ rfl) (hf:=gF rfl)) (g8 (eZ (i:=5) rJ.nd rfl (dZ rfl) (hf:=gF rfl)) uV)))) (λ_ _ _ _ _=>kJ) (λ_ _ _ _ _=>(cJ apZ (hr.mono (by decide)) rfl T.apt T.abA.kp T.agU .nil dz (aq (pv 4) (aq (pv 5) aG))))) aG))))))),?_⟩
  walk_at "rd";refine ⟨_,ah6 T,bW c,rfl,_,(j8 _).symm,?_⟩;have ef:forms.lookup c=((YH A).map λe=>(e.1,e.2.2)).lookup c:=rfl;unfold wA at k;rw [ef] at k;rcases aaU c (YH A) with ⟨h1,h2⟩ | ⟨e,he,ec,h1,h2⟩
  ·rw [h2];rw [h1] at k;simp only [jk,gn,↓reduceIte];exact k H (bh.refl H)
  ·rw [h2];rw [h1] at k;dsimp only at k;simp only [gG,gV,cD,↓reduceIte];obtain ⟨hKT,hl⟩:=anJ T e he;refine ⟨_,ah6 T,bW c,rfl,_,h2,_,.inl hs,?_⟩;rw [ao];refine ⟨e.2.1,e.2.2,us.length,m,rfl,hKT,hl,hz,hm,λD H1 hD s1 hd=>?_⟩;have hw:=WM us.length m e.2.2;have hw2:e.2.2.length*(us.length+m+3)<=10*(us.length+m+3):=QS _ hl;have hsl:sizeLine=16777216:=sizeLine_eq;refine ⟨D,rfl,_,.inl (cY.of hd),_,.inl (s1.seq hs),rfl,_,(j8 _).symm,?_⟩;rw [ao,ao];by_cases hne:(want us.length m e.2.2).length=us.length
   ·rw [decide_eq_true (by rw [hne])];rw [decide_eq_true hne,dJ] at k;simp only [gV,cD,↓reduceIte];refine ⟨a,D,_,_,rfl,s1.seq hs,cY.of hd,Rv ah5 (s1.seq hs) (cY.of hd) (by rw [ao];omega) (by decide) ?_ ?_⟩
    ·intro i x y H2 R hx hy s2 h;obtain ⟨u,hu,rfl⟩:=aou hx;obtain ⟨p,hp,rfl⟩:=an4 hy;walk_at "rd";exact ⟨u,p,rfl,hzz u (aM hu),h⟩
    ·intro D2 H2 hD2 s2 h;rw [adv] at h;exact ⟨D2,rfl,_,cY.of h,k H2 (s1.trans s2)⟩
   ·rw [decide_eq_false (by omega)];rw [decide_eq_false hne,eO] at k;simp only [gn,↓reduceIte];exact k H1 s1))
end
noncomputable def uT (n:Nat) (k:Str) (o:Bool) (la:Addr):List (Str×V):=[("number",.int (n:Int)),("kind",.str k),("opened",.bl o),("amounts",.ref la)]
noncomputable def aof (s t a:Addr):List (Str×V):=[("source",.ref s),("target",.ref t),("amounts",.ref a)]
noncomputable def nW (e m:Nat) (u:Str) (c:Nat) (t:Bool) (mv:V):List (Str×V):=[("end",.int (e:Int)),("month",.int (m:Int)),("user",.str u),("code",.int (c:Int)),("taken_back",.bl t),("move",mv)]
noncomputable def Qt (us me pl:Addr) (mo:Nat) (sc re:Addr):List (Str×V):=[("users",.ref us),("metals",.ref me),("places",.ref pl),("month",.int (mo:Int)),("scale",.ref sc),("records",.ref re)]
noncomputable def rP (ta:Addr) (se:Nat) (br:Bool) (bo:Addr):List (Str×V):=[("taken",.ref ta),("settled",.int (se:Int)),("broken",.bl br),("books",.ref bo)]
noncomputable def JD (j:Addr):List (Str×V):=[("journal",.ref j)]
def QH(p:Addr)(H H':Hp):Prop:=∀b o,H b=some o->b≠p->H' b=some o
theorem QH.of_same{p:Addr}{H H':Hp}(s:bh H H'):QH p H H':=λb o h _=>s b o h
theorem QH.upd{p:Addr}{H H1:Hp}{o:HO}(s:QH p H H1):QH p H (upd H1 p o):=λb u h n=>by rw [aF n];exact s b u h n
theorem QH.trans{p:Addr}{H H1 H2:Hp}(a:QH p H H1)(b:QH p H1 H2):QH p H H2:=λc o h n=>b c o (a c o h n) n
section
variable {P:Program} {w:World} {K:az} {mg:Str->Option Value} {base:Heap} {A:uw}
inductive Z8(A:uw)(vs:List V)(H:Hp)(Q:VK)(E:XK):Prop
 |mk (p dx:Addr) (n:Nat) (k:Str) (m:Nat) (_:vs=[.ref p,.int (n:Int),.str k,.int (m:Int)]) (_:H p=some (.ins A.fW dx [])) (_:m<=100) (_:∀la H',H la=none->H' p=some (.ins A.fW dx (uT n k false la))->H' la=some (.lst (bV (bx (m+1) 0)))->QH p H H'->Q .non H')
theorem aap(T:Txt P w K mg A):fU P w K mg base mU 1 A.HW A.sG zR (Z8 A):=(by apply aj:aa (by
 refine T.Gz.ok aaf (λvs H Q E h=>?_) (λcdv A' outer s H vs Q E hr h=>?_)
 ·obtain ⟨p,dx,n,k,m,rfl,_⟩:=h;rfl
 ·obtain ⟨p,dx,n,k,m,rfl,hp,hm,q⟩:=h;refine ⟨_,(aL (gB (pv 0) (pv 1) rfl)
   (aL (gB (pv 0) (pv 2) rfl)
   (aL (gB (pv 0) Js rfl)
   (aK (gB (pv 0) (fC XH (cZ (aq bG aG)) (fC kW bG (pv 3))) rfl))))),?_⟩
  walk_at "rd";refine ⟨_,_,_,hp,T.d7,T.fO,of_decide_eq_true rfl,?_⟩;refine ⟨_,_,_,aD,T.d7,T.iH,of_decide_eq_true rfl,?_⟩;rw [ahr];refine ⟨_,_,_,aD,T.d7,T.tH,of_decide_eq_true rfl,?_⟩;rw [ahr];have b1:QH p H (upd H p (.ins A.fW dx (dU "opened" (.bl false) (dU "kind" (.str k) (dU "number" (.int (n:Int)) []))))):=(QH.of_same (bh.refl H)).upd;have h1:upd H p (.ins A.fW dx (dU "opened" (.bl false) (dU "kind" (.str k) (dU "number" (.int (n:Int)) [])))) p=some (.ins A.fW dx (dU "opened" (.bl false) (dU "kind" (.str k) (dU "number" (.int (n:Int)) [])))):=aD;generalize upd H p (.ins A.fW dx (dU "opened" (.bl false) (dU "kind" (.str k) (dU "number" (.int (n:Int)) []))))=H1 at b1 h1;refine ⟨by decide,λp1 n1=>⟨_,aD,by omega,by omega,?_,λp2 n2=>?_⟩⟩
  ·simp only [aH,bF];have hsl:sizeLine=16777216:=sizeLine_eq;omega
  ·have s1:bh H1 (upd H1 p1 (.lst [V.int 0])):=bh.new n1;have e1:(bx (1+(m:Int)).toNat [V.int 0]).flatten=bV (bx (m+1) 0):=by
    have e:(1+(m:Int)).toNat=m+1:=by omega
    rw [e];generalize m+1=j
    induction j with
    |zero=>rfl
    |succ j ih=>rw [fM,mY,ih,fM];rfl
   rw [e1];have s2:bh (upd H1 p1 (.lst [V.int 0])) (upd (upd H1 p1 (.lst [V.int 0])) p2 (.lst (bV (bx (m+1) 0)))):=bh.new n2;have s3:=s1.trans s2;have h2:=s3 _ _ h1;have np:p2≠p:=λz=>by rw [z,s1 _ _ h1] at n2;cases n2
   have nH:H p2=none:=by
    cases e:H p2 with
    |none=>rfl
    |some u=>rw [s1 _ _ (b1 _ _ e np)] at n2;cases n2
   refine ⟨_,_,_,h2,T.d7,T.gJ,of_decide_eq_true rfl,?_⟩;refine q p2 _ nH aD ?_ ?_
   ·rw [aF np];exact aD
   ·exact (b1.trans (QH.of_same s3)).upd))
inductive ahA(A:uw)(g:Nat->Nat->Nat)(C:List Nat->List Nat->Prop)(vs:List V)(H:Hp)(Q:VK)(E:XK):Prop
 |mk (p dx a:Addr) (n:Nat) (k:Str) (o:Bool) (la:Addr) (xs ys:List Nat) (_:vs=[.ref p,.ref a]) (_:H p=some (.ins A.fW dx (uT n k o la))) (_:H la=some (.lst (bV xs))) (_:H a=some (.lst (bV ys))) (_:xs.length<=100) (_:C xs ys) (_:∀l2 H',H l2=none->H' p=some (.ins A.fW dx (uT n k o l2))->H' l2=some (.lst (bV (bM g xs ys)))->QH p H H'->Q .non H')
abbrev Z9(A:uw):Sp:=ahA A (λx y=>x+y) λ_ _=>True
abbrev Z7(A:uw):Sp:=ahA A (λx y=>x - y) λxs ys=>∀(i x y:Nat),xs[i]? =some x->ys[i]? =some y->y<=x
noncomputable def apB:V->V->V
 |.int x,.int y=>.int (x+y)
 |_,_=>.non
def anH:V->V->V
 |.int x,.int y=>.int (x - y)
 |_,_=>.non
theorem aho:∀xs ys:List Nat,bM apB (bV xs) (bV ys)=bV (bM (λx y=>x+y) xs ys)
 |[],_=>by simp
 |_::_,[]=>by simp
 |x::xs,y::ys=>by
  show V.int ((x:Int)+(y:Int))::bM apB (bV xs) (bV ys)=V.int ((x+y:Nat):Int)::bV (bM (λx y=>x+y) xs ys);rw [aho xs ys];congr 2
theorem ahm:∀xs ys:List Nat,(∀(i x y:Nat),xs[i]? =some x->ys[i]? =some y->y<=x)->bM anH (bV xs) (bV ys)=bV (bM (λx y=>x - y) xs ys)
 |[],_,_=>by simp
 |_::_,[],_=>by simp
 |x::xs,y::ys,h=>by
  have h0:=h 0 x y rfl rfl;show V.int ((x:Int) - (y:Int))::bM anH (bV xs) (bV ys)=V.int ((x - y:Nat):Int)::bV (bM (λx y=>x - y) xs ys);rw [ahm xs ys λi a b ha hb=>h (i+1) a b ha hb];congr 2;omega
theorem O5(T:Txt P w K mg A):fU P w K mg base mU 1 A.HX A.sH zT (Z9 A):=(by apply aj:aa (by
 refine T.GC.ok xj (λvs H Q E h=>?_) (λcdv A' outer s H vs Q E hr h=>?_)
 ·obtain ⟨p,dx,a,n,k,o,la,xs,ys,rfl,_⟩:=h;rfl
 ·obtain ⟨p,dx,a,n,k,o,la,xs,ys,rfl,hp,hla,ha,hl,_,q⟩:=h;refine ⟨_,(aK (gB (pv 0) (yU rfl xj.nd (Xz rfl T.aa1 (aq (aO (pv 0) rfl) (aq (pv 1) aG))) (iJ (N:=Sx) (sc:=aX zF) (own:=[("held",2),("more",3)]) (by decide+kernel)) (λ_ _ _ _ _=>(uW (K:=K) (n:=2) rfl rfl (g8 (eZ (i:=2) xj.nd rfl (dZ rfl) (hf:=gF rfl)) (g8 (eZ (i:=3) xj.nd rfl (dZ rfl) (hf:=gF rfl)) uV)))) (λ_ _ _ _ _=>kJ) (λ_ _ _ _ _=>(fC kW (pv 2) (pv 3)))) rfl)),?_⟩;walk_at "rd";refine ⟨p,rfl,_,_,_,hp,T.d7,T.gJ,_,rfl,la,a,_,_,rfl,cY.of hla,cY.of ha,Rv apB (cY.of hla) (cY.of ha) (by rw [ao];exact aY hl (by decide)) (by decide) ?_ ?_⟩
  ·intro i x y H2 R hx hy s2 h;obtain ⟨c,hc,rfl⟩:=Gi hx;obtain ⟨d,hd,rfl⟩:=Gi hy;walk_at "rd";exact h H2 (bh.refl H2)
  ·intro D H2 hD s2 h;rw [aho] at h;walk_at "rd";have np:D≠p:=λz=>by rw [z,hp] at hD;cases hD
   refine ⟨_,_,_,s2 _ _ hp,T.d7,T.gJ,of_decide_eq_true rfl,?_⟩;refine q D _ hD aD ?_ (QH.of_same s2).upd;rw [aF np];exact h))
theorem aao(T:Txt P w K mg A):fU P w K mg base mU 1 A.HS A.sE zQ (Z7 A):=(by apply aj:aa (by
 refine T.Gy.ok xg (λvs H Q E h=>?_) (λcdv A' outer s H vs Q E hr h=>?_)
 ·obtain ⟨p,dx,a,n,k,o,la,xs,ys,rfl,_⟩:=h;rfl
 ·obtain ⟨p,dx,a,n,k,o,la,xs,ys,rfl,hp,hla,ha,hl,hC,q⟩:=h;refine ⟨_,(aK (gB (pv 0) (yU rfl xg.nd (Xz rfl T.aa1 (aq (aO (pv 0) rfl) (aq (pv 1) aG))) (iJ (N:=Sv) (sc:=aX zE) (own:=[("held",2),("less",3)]) (by decide+kernel)) (λ_ _ _ _ _=>(uW (K:=K) (n:=2) rfl rfl (g8 (eZ (i:=2) xg.nd rfl (dZ rfl) (hf:=gF rfl)) (g8 (eZ (i:=3) xg.nd rfl (dZ rfl) (hf:=gF rfl)) uV)))) (λ_ _ _ _ _=>kJ) (λ_ _ _ _ _=>(fC DY (pv 2) (pv 3)))) rfl)),?_⟩;walk_at "rd";refine ⟨p,rfl,_,_,_,hp,T.d7,T.gJ,_,rfl,la,a,_,_,rfl,cY.of hla,cY.of ha,Rv anH (cY.of hla) (cY.of ha) (by rw [ao];exact aY hl (by decide)) (by decide) ?_ ?_⟩
  ·intro i x y H2 R hx hy s2 h;obtain ⟨c,hc,rfl⟩:=Gi hx;obtain ⟨d,hd,rfl⟩:=Gi hy;walk_at "rd";exact h H2 (bh.refl H2)
  ·intro D H2 hD s2 h;rw [ahm _ _ hC] at h;walk_at "rd";have np:D≠p:=λz=>by rw [z,hp] at hD;cases hD
   refine ⟨_,_,_,s2 _ _ hp,T.d7,T.gJ,of_decide_eq_true rfl,?_⟩;refine q D _ hD aD ?_ (QH.of_same s2).upd;rw [aF np];exact h))
noncomputable def alA (xs ys:List Nat):Bool:=(bM (λx y=>decide (x<y)) xs ys).any id
inductive Rb(A:uw)(vs:List V)(H:Hp)(Q:VK)(E:XK):Prop
 |mk (p dx a:Addr) (n:Nat) (k:Str) (o:Bool) (la:Addr) (xs ys:List Nat) (_:vs=[.ref p,.ref a]) (_:H p=some (.ins A.fW dx (uT n k o la))) (_:H la=some (.lst (bV xs))) (_:H a=some (.lst (bV ys))) (_:xs.length<=100) (_:∀H',bh H H'->Q (.bl (alA xs ys)) H')
noncomputable def gLt:V->V->V
 |.int x,.int y=>.bl (decide (x<y))
 |_,_=>.non
theorem akJ:∀xs ys:List Nat,bM gLt (bV xs) (bV ys)=(bM (λx y=>decide (x<y)) xs ys).map V.bl
 |[],_=>by simp
 |_::_,[]=>by simp
 |x::xs,y::ys=>by
  show V.bl (decide ((x:Int)<(y:Int)))::bM gLt (bV xs) (bV ys)=V.bl (decide (x<y))::(bM (λx y=>decide (x<y)) xs ys).map V.bl;rw [akJ xs ys];congr 2;exact decide_eq_decide.mpr (by omega)
theorem Rr(T:Txt P w K mg A):fU P w K mg base mU 1 A.wL A.mz qT (Rb A):=(by apply aj:aa (by
 refine T.wC.ok pK (λvs H Q E h=>?_) (λcdv A' outer s H vs Q E hr h=>?_)
 ·obtain ⟨p,dx,a,n,k,o,la,xs,ys,rfl,_⟩:=h;rfl
 ·obtain ⟨p,dx,a,n,k,o,la,xs,ys,rfl,hp,hla,ha,hl,q⟩:=h;refine ⟨_,(aK (bB (cH (amj rfl) rfl T.aoe boot_any (aq (yU rfl pK.nd (Xz rfl T.aa1 (aq (aO (pv 0) rfl) (aq (pv 1) aG))) (iJ (N:=Gj) (sc:=aX qP) (own:=[("held",2),("wanted",3)]) (by decide+kernel)) (λ_ _ _ _ _=>(uW (K:=K) (n:=2) rfl rfl (g8 (eZ (i:=2) pK.nd rfl (dZ rfl) (hf:=gF rfl)) (g8 (eZ (i:=3) pK.nd rfl (dZ rfl) (hf:=gF rfl)) uV)))) (λ_ _ _ _ _=>kJ) (λ_ _ _ _ _=>(nZ Kv (pv 2) (pv 3) (cP _)))) aG)))),?_⟩;walk_at "rd";refine ⟨p,rfl,_,_,_,hp,T.d7,T.gJ,_,rfl,la,a,_,_,rfl,cY.of hla,cY.of ha,Rv gLt (cY.of hla) (cY.of ha) (by rw [ao];exact aY hl (by decide)) (by decide) ?_ ?_⟩
  ·intro i x y H2 R hx hy s2 h;obtain ⟨c,hc,rfl⟩:=Gi hx;obtain ⟨d,hd,rfl⟩:=Gi hy;walk_at "rd";exact h H2 (bh.refl H2)
  ·intro D H2 hD s2 h;rw [akJ] at h;exact ⟨D,rfl,_,cY.of h,q H2 s2⟩))
noncomputable def eF:eU->Str
 |.ground=>"ground"
 |.pile=>"pile"
 |.plant=>"plant"
 |.waste=>"waste"
 |.sold=>"sold"
inductive abR(A:uw)(vs:List V)(H:Hp)(Q:VK)(E:XK):Prop
 |mk (p dx:Addr) (n:Nat) (k:eU) (o:Bool) (la:Addr) (xs:List Nat) (_:vs=[.ref p]) (_:H p=some (.ins A.fW dx (uT n (eF k) o la))) (_:H la=some (.lst (bV xs))) (_:xs.length<=100) (_:∀D H',H D=none->bh H H'->H' D=some (.lst (bV (qY k::xs)))->Q (.ref D) H')
theorem anm(k:eU):∃(j:Nat) (z:V),qY k=j+1/\(FN.map V.str)[j]? =some z/\eqV z (.str (eF k))=true/\∀(m:Nat) (z':V),m<j->(FN.map V.str)[m]? =some z'->eqV z' (.str (eF k))=false:=(by apply aj:aa (by
 cases k with
 |ground=>exact ⟨0,_,rfl,rfl,by decide+kernel,λm z h=>absurd h (Nat.not_lt_zero m)⟩
 |pile=>
  refine ⟨1,_,rfl,rfl,by decide+kernel,λm z h e=>?_⟩
  match m,h,e with
  |0,_,e=>cases aB e;decide+kernel
 |plant=>
  refine ⟨2,_,rfl,rfl,by decide+kernel,λm z h e=>?_⟩
  match m,h,e with
  |0,_,e=>cases aB e;decide+kernel
  |1,_,e=>cases aB e;decide+kernel
 |waste=>
  refine ⟨3,_,rfl,rfl,by decide+kernel,λm z h e=>?_⟩
  match m,h,e with
  |0,_,e=>cases aB e;decide+kernel
  |1,_,e=>cases aB e;decide+kernel
  |2,_,e=>cases aB e;decide+kernel
 |sold=>
  refine ⟨4,_,rfl,rfl,by decide+kernel,λm z h e=>?_⟩
  match m,h,e with
  |0,_,e=>cases aB e;decide+kernel
  |1,_,e=>cases aB e;decide+kernel
  |2,_,e=>cases aB e;decide+kernel
  |3,_,e=>cases aB e;decide+kernel))
theorem Rq(T:Txt P w K mg A):fU P w K mg base mU 1 A.Lg A.vI CZ (abR A):=(by apply aj:aa (by
 refine T.J6.ok abX (λvs H Q E h=>?_) (λcdv A' outer s H vs Q E hr h=>?_)
 ·obtain ⟨p,dx,n,k,o,la,xs,rfl,_⟩:=h;rfl
 ·obtain ⟨p,dx,n,k,o,la,xs,rfl,hp,hla,hl,q⟩:=h;refine ⟨_,(aK (bB (fC qg (cZ (aq (fC kW (rM PySem.F.plainAttrs_tuple afw PySem.F.type_tuple_index aje (bH T.acF) (aq (aO (pv 0) rfl) aG)) bG) aG)) (aO (pv 0) rfl)))),?_⟩;walk_at "rd";obtain ⟨j,z,ej,h1,h2,h3⟩:=anm k;refine ⟨.inr (.inl ⟨rfl,T.V7.ty⟩),_,_,_,hp,T.d7,T.iH,_,rfl,_,T.V7.sq,rfl,rfl,j,z,h1,h2,h3,by decide,λp1 n1=>?_⟩;have s1:bh H (upd H p1 (.lst [V.int ((j:Int)+1)])):=bh.new n1;have hsl:sizeLine=16777216:=sizeLine_eq;refine ⟨_,_,_,s1 _ _ hp,T.d7,T.gJ,_,rfl,la,rfl,_,aD,_,s1 _ _ hla,by rw [ao];simp only [aH,bF];omega,λp2 n2=>q p2 _ (s1.free n2) (s1.trans (bh.new n2)) ?_⟩;rw [aD,ej];rfl))
inductive abS(A:uw)(vs:List V)(H:Hp)(Q:VK)(E:XK):Prop
 |mk (p dx s t a:Addr) (_:vs=[.ref p,.ref s,.ref t,.ref a]) (_:H p=some (.ins A.ue dx [])) (_:∀H',H' p=some (.ins A.ue dx (aof s t a))->QH p H H'->Q .non H')
theorem acw(T:Txt P w K mg A):fU P w K mg base mU 1 A.Lh A.vJ Dc (abS A):=(by apply aj:aa (by
 refine T.J7.ok abY (λvs H Q E h=>?_) (λcdv A' outer s H vs Q E hr h=>?_)
 ·obtain ⟨p,dx,s,t,a,rfl,_⟩:=h;rfl
 ·obtain ⟨p,dx,s',t,a,rfl,hp,q⟩:=h;refine ⟨_,(aL (gB (pv 0) (pv 1) rfl)
   (aL (gB (pv 0) (pv 2) rfl)
   (aK (gB (pv 0) (pv 3) rfl)))),?_⟩
  walk_at "rd";refine ⟨_,_,_,hp,T.mG,T.lA,of_decide_eq_true rfl,?_⟩;refine ⟨_,_,_,aD,T.mG,T.lu,of_decide_eq_true rfl,?_⟩;refine ⟨_,_,_,aD,T.mG,T.lQ,of_decide_eq_true rfl,?_⟩;exact q _ aD (((QH.of_same (bh.refl H)).upd).upd).upd))
inductive Xa(A:uw)(vs:List V)(H:Hp)(Q:VK)(E:XK):Prop
 |mk (p dx:Addr) (e m:Nat) (_:vs=[.ref p,.int (e:Int),.int (m:Int)]) (_:H p=some (.ins A.cX dx [])) (_:∀H',H' p=some (.ins A.cX dx (nW e m "" 0 false .non))->QH p H H'->Q .non H')
theorem X3(T:Txt P w K mg A):fU P w K mg base mU 1 A.Eg A.qu xx (Xa A):=(by apply aj:aa (by
 refine T.DG.ok Xg (λvs H Q E h=>?_) (λcdv A' outer s H vs Q E hr h=>?_)
 ·obtain ⟨p,dx,e,m,rfl,_⟩:=h;rfl
 ·obtain ⟨p,dx,e,m,rfl,hp,q⟩:=h;refine ⟨_,(aL (gB (pv 0) (pv 1) rfl)
   (aL (gB (pv 0) (pv 2) rfl)
   (aL (gB (pv 0) pI rfl)
   (aL (gB (pv 0) (bH T.Bo) rfl)
   (aL (gB (pv 0) Js rfl)
   (aK (gB (pv 0) nY rfl))))))),?_⟩
  walk_at "rd";refine ⟨_,_,_,hp,T.dg,T.xG,of_decide_eq_true rfl,?_⟩;refine ⟨_,_,_,aD,T.dg,T.tG,of_decide_eq_true rfl,?_⟩;refine ⟨_,_,_,aD,T.dg,T.qi,of_decide_eq_true rfl,?_⟩;refine ⟨_,_,_,aD,T.dg,T.lr,of_decide_eq_true rfl,?_⟩;refine ⟨_,_,_,aD,T.dg,T.jf,of_decide_eq_true rfl,?_⟩;refine ⟨_,_,_,aD,T.dg,T.d9,of_decide_eq_true rfl,?_⟩;exact q _ aD ((((((QH.of_same (bh.refl H)).upd).upd).upd).upd).upd).upd))
structure Zc(A:uw)(H0 H:Hp)(p:Addr)(us me pl sc re:Addr):Prop where
 bk:∃dx,H p=some (.ins A.gh dx (Qt us me pl 1 sc re))
 hus:H us=some (.dK [])
 hme:H me=some (.lst [])
 hpl:H pl=some (.dK [])
 hsc:H sc=some (.lst [])
 hre:H re=some (.lst [])
 fr:H0 us=none/\H0 me=none/\H0 pl=none/\H0 sc=none/\H0 re=none
 ne:us≠pl/\me≠sc/\me≠re/\sc≠re
inductive aaa(A:uw)(vs:List V)(H:Hp)(Q:VK)(E:XK):Prop
 |mk (p dx:Addr) (_:vs=[.ref p]) (_:H p=some (.ins A.gh dx [])) (_:∀us me pl sc re H',Zc A H H' p us me pl sc re->QH p H H'->Q .non H')
theorem Rg{H H1:Hp}{p q C dx:Addr}{fs fs':List (Str×V)}{o:HO}(b:QH p H H1)(hp:H1 p=some (.ins C dx fs))(n:H1 q=none):
  QH p H (upd (upd H1 q o) p (.ins C dx fs'))/\upd (upd H1 q o) p (.ins C dx fs') p=some (.ins C dx fs')/\upd (upd H1 q o) p (.ins C dx fs') q=some o/\H q=none/\(∀c u,H1 c=some u->c≠p->upd (upd H1 q o) p (.ins C dx fs') c=some u/\c≠q):=by
 have nq:q≠p:=λz=>by rw [z,hp] at n;cases n
 refine ⟨(b.trans (QH.of_same (bh.new n))).upd,aD,by rw [aF nq,aD],?_,λc u hc hn=>⟨by rw [aF hn,aF (fK hc n)];exact hc,fK hc n⟩⟩;cases e:H q with
 |none=>rfl
 |some u=>rw [b _ _ e nq] at n;cases n
theorem aaq(T:Txt P w K mg A):fU P w K mg base mU 1 A.HY A.sI zU (aaa A):=(by apply aj:aa (by
 refine T.GD.ok aag (λvs H Q E h=>?_) (λcdv A' outer s H vs Q E hr h=>?_)
 ·obtain ⟨p,dx,rfl,_⟩:=h;rfl
 ·obtain ⟨p,dx,rfl,hp,q⟩:=h;refine ⟨_,(aL (gB (pv 0) aeb rfl)
   (aL (gB (pv 0) (cZ aG) rfl)
   (aL (gB (pv 0) aeb rfl)
   (aL (gB (pv 0) bG rfl)
   (aL (gB (pv 0) (cZ aG) rfl)
   (aK (gB (pv 0) (cZ aG) rfl))))))),?_⟩
  walk_at "rd";intro us n1;have np1:us≠p:=λz=>by rw [z,hp] at n1;cases n1
  refine ⟨_,_,_,by rw [aF (cO np1)];exact hp,T.cN,T.jq,of_decide_eq_true rfl,?_⟩;obtain ⟨b1,p1,u1,f1,k1⟩:=Rg (fs':=dU "users" (.ref us) []) (o:=.dK []) (QH.of_same (bh.refl H)) hp n1;generalize upd (upd H us (.dK [])) p (.ins A.gh dx (dU "users" (.ref us) []))=H1 at b1 p1 u1 k1;refine ⟨eX _,λme n2=>?_⟩;have np2:me≠p:=λz=>by rw [z,p1] at n2;cases n2
  refine ⟨_,_,_,by rw [aF (cO np2)];exact p1,T.cN,T.jt,of_decide_eq_true rfl,?_⟩;obtain ⟨b2,p2,u2,f2,k2⟩:=Rg (fs':=dU "metals" (.ref me) (dU "users" (.ref us) [])) (o:=.lst []) b1 p1 n2;generalize upd (upd H1 me (.lst [])) p (.ins A.gh dx (dU "metals" (.ref me) (dU "users" (.ref us) [])))=H2 at b2 p2 u2 k2;intro pl n3;have np3:pl≠p:=λz=>by rw [z,p2] at n3;cases n3
  refine ⟨_,_,_,by rw [aF (cO np3)];exact p2,T.cN,T.fG,of_decide_eq_true rfl,?_⟩;obtain ⟨b3,p3,u3,f3,k3⟩:=Rg (fs':=dU "places" (.ref pl) (dU "metals" (.ref me) (dU "users" (.ref us) []))) (o:=.dK []) b2 p2 n3;generalize upd (upd H2 pl (.dK [])) p (.ins A.gh dx (dU "places" (.ref pl) (dU "metals" (.ref me) (dU "users" (.ref us) []))))=H3 at b3 p3 u3 k3;refine ⟨_,_,_,p3,T.cN,T.jR,of_decide_eq_true rfl,?_⟩;have b4:QH p H (upd H3 p (.ins A.gh dx (dU "month" (.int 1) (dU "places" (.ref pl) (dU "metals" (.ref me) (dU "users" (.ref us) [])))))):=b3.upd;have p4:upd H3 p (.ins A.gh dx (dU "month" (.int 1) (dU "places" (.ref pl) (dU "metals" (.ref me) (dU "users" (.ref us) []))))) p=some (.ins A.gh dx (dU "month" (.int 1) (dU "places" (.ref pl) (dU "metals" (.ref me) (dU "users" (.ref us) []))))):=aD;have k4:∀c u,H3 c=some u->c≠p->upd H3 p (.ins A.gh dx (dU "month" (.int 1) (dU "places" (.ref pl) (dU "metals" (.ref me) (dU "users" (.ref us) []))))) c=some u:=λc u hc hn=>by rw [aF hn];exact hc
  generalize upd H3 p (.ins A.gh dx (dU "month" (.int 1) (dU "places" (.ref pl) (dU "metals" (.ref me) (dU "users" (.ref us) [])))))=H4 at b4 p4 k4;refine ⟨eX _,λsc n5=>?_⟩;have np5:sc≠p:=λz=>by rw [z,p4] at n5;cases n5
  refine ⟨_,_,_,by rw [aF (cO np5)];exact p4,T.cN,T.vA,of_decide_eq_true rfl,?_⟩;obtain ⟨b5,p5,u5,f5,k5⟩:=Rg (fs':=dU "scale" (.ref sc) (dU "month" (.int 1) (dU "places" (.ref pl) (dU "metals" (.ref me) (dU "users" (.ref us) []))))) (o:=.lst []) b4 p4 n5;generalize upd (upd H4 sc (.lst [])) p (.ins A.gh dx (dU "scale" (.ref sc) (dU "month" (.int 1) (dU "places" (.ref pl) (dU "metals" (.ref me) (dU "users" (.ref us) []))))))=H5 at b5 p5 u5 k5;refine ⟨eX _,λre n6=>?_⟩;have np6:re≠p:=λz=>by rw [z,p5] at n6;cases n6
  refine ⟨_,_,_,by rw [aF (cO np6)];exact p5,T.cN,T.fD,of_decide_eq_true rfl,?_⟩;obtain ⟨b6,p6,u6,f6,k6⟩:=Rg (fs':=dU "records" (.ref re) (dU "scale" (.ref sc) (dU "month" (.int 1) (dU "places" (.ref pl) (dU "metals" (.ref me) (dU "users" (.ref us) [])))))) (o:=.lst []) b5 p5 n6;generalize upd (upd H5 re (.lst [])) p (.ins A.gh dx (dU "records" (.ref re) (dU "scale" (.ref sc) (dU "month" (.int 1) (dU "places" (.ref pl) (dU "metals" (.ref me) (dU "users" (.ref us) [])))))))=H6 at b6 p6 u6 k6;have us2:=(k2 us _ u1 np1).1;have us3:=k3 us _ us2 np1;have us4:=k4 us _ us3.1 np1;have us5:=(k5 us _ us4 np1).1;have me3:=(k3 me _ u2 np2).1;have me4:=k4 me _ me3 np2;have me5:=k5 me _ me4 np2;have me6:=k6 me _ me5.1 np2;have pl4:=k4 pl _ u3 np3;have pl5:=(k5 pl _ pl4 np3).1;have sc6:=k6 sc _ u5 np5;exact q us me pl sc re H6 ⟨⟨dx,p6⟩,(k6 us _ us5 np1).1,me6.1,(k6 pl _ pl5 np3).1,sc6.1,u6,⟨f1,f2,f3,f5,f6⟩,⟨us3.2,me5.2,me6.2,sc6.2⟩⟩ b6))
end
end
section
open PySem PySem.Spec PyProof.Rows
open Vbmiam (KG)
structure BOk(N:Nat)(B:aC):Prop where
 us:B.users.length<=8
 un:∀u∈B.users,bj u.name=true
 ud:(B.users.map (·.name)).Nodup
 ur:∀u∈B.users,1<=u.rank/\u.rank<=3
 me:B.metals.length<=2
 mn:∀m∈B.metals,bj m=true
 ps:B.places.length<=12
 pn:∀p∈B.places,bj p.name=true
 pd:(B.places.map (·.name)).Nodup
 pm:∀p∈B.places,p.metals.length=B.metals.length
 pk:∀p∈B.places,p.kg<=KG*N
 mv:∀r∈B.records,∀m,r.move=some m->m.from_<B.places.length/\m.to_<B.places.length/\m.from_≠m.to_/\m.metals.length=B.metals.length/\m.kg<=KG/\bj r.user=true
 sc:B.scale.length<=6
structure Lay where
 us:Addr
 me:Addr
 pl:Addr
 sc:Addr
 re:Addr
 ps:List (Addr×Addr)
 rs:List Addr
structure Dr(A:uw)(H:Hp)(a la:Addr)(n:Nat)(p:dw):Prop where
 ob:∃dx,H a=some (.ins A.fW dx (uT n (eF p.kind) p.opened la))
 am:H la=some (.lst (bV (p.kg::p.metals)))
structure qI(A:uw)(H:Hp)(L:Lay)(ma la:Addr)(m:bK):Prop where
 ob:∃dx sa ta,H ma=some (.ins A.ue dx (aof sa ta la))/\(L.ps[m.from_]?).map (·.1)=some sa/\(L.ps[m.to_]?).map (·.1)=some ta
 am:H la=some (.lst (bV (m.kg::m.metals)))
 ne:la≠L.me/\la≠L.re
def V5(A:uw)(H:Hp)(L:Lay)(S:Addr->Prop):V->Option bK->Prop
 |v,none=>v= .non
 |v,some m=>∃ma la,v= .ref ma/\qI A H L ma la m/\S ma/\S la
noncomputable def Vy (c:Nat) (wd:List Nat):Str:=if c=3 then tx [] else tx wd
def UOk(u:Str)(r:jw):Prop:=(r.move.isSome=true->u=tx r.user)/\u=Vy r.code r.user/\∀c∈u.cps.toList,c<0x110000
def RecAt(A:uw)(H:Hp)(L:Lay)(S:Addr->Prop)(a:Addr)(e:Nat)(r:jw):Prop:=
 ∃dx u v,H a=some (.ins A.cX dx (nW e r.month u r.code r.back v))/\V5 A H L S v r.move/\UOk u r
noncomputable def jJ (l:List dG):List (Key×V):=l.map λu=>(bW (tx u.name),V.int (u.rank:Int))
noncomputable def eE (l:List dw) (ps:List (Addr×Addr)):List (Key×V):=bM (λp a=>((bW (tx p.name):Key),V.ref a.1)) l ps
structure bJ(A:uw)(N:Nat)(H:Hp)(b:Addr)(B:aC)(es:List Nat)(L:Lay)(S:Addr->Prop):Prop where
 ok:BOk N B
 bk:∃dx,H b=some (.ins A.gh dx (Qt L.us L.me L.pl B.month L.sc L.re))
 us:H L.us=some (.dK (jJ B.users))
 me:H L.me=some (.lst (B.metals.map λm=>V.str (tx m)))
 pl:H L.pl=some (.dK (eE B.places L.ps))
 sc:H L.sc=some (.lst (bV (B.scale.flatMap λx=>[x.1,x.2])))
 re:H L.re=some (.lst (L.rs.map V.ref))
 yE:L.ps.length=B.places.length
 Cr:L.rs.length=B.records.length
 esl:es.length=B.records.length
 pat:∀(i:Nat) (p:dw) (a la:Addr),B.places[i]? =some p->L.ps[i]? =some (a,la)->Dr A H a la (i+1) p
 rat:∀(i:Nat) (r:jw) (a:Addr) (e:Nat),B.records[i]? =some r->L.rs[i]? =some a->es[i]? =some e->RecAt A H L S a e r
 Xw:(L.ps.map (·.1)).Nodup
 Zx:L.rs.Nodup
 ne:L.us≠L.pl/\L.me≠L.sc/\L.me≠L.re/\L.sc≠L.re
 Xv:∀a∈L.ps,a.2≠L.me/\a.2≠L.re
 own:S b/\S L.us/\S L.me/\S L.pl/\S L.sc/\S L.re/\(∀a∈L.ps,S a.1/\S a.2)/\∀a∈L.rs,S a
section
variable {A:uw} {N:Nat} {H H':Hp} {b:Addr} {B:aC} {es:List Nat} {L:Lay} {S S':Addr->Prop}
theorem Dr.keep{a la:Addr}{n:Nat}{p:dw}(h:Dr A H a la n p)(k1:∀o,H a=some o->H' a=some o)(k2:∀o,H la=some o->H' la=some o):Dr A H' a la n p:=
 ⟨let ⟨dx,e⟩:=h.ob;⟨dx,k1 _ e⟩,k2 _ h.am⟩
theorem qI.keep{ma la:Addr}{m:bK}(h:qI A H L ma la m)(k1:∀o,H ma=some o->H' ma=some o)(k2:∀o,H la=some o->H' la=some o):qI A H' L ma la m:=
 ⟨let ⟨dx,sa,ta,e,r⟩:=h.ob;⟨dx,sa,ta,k1 _ e,r⟩,k2 _ h.am,h.ne⟩
theorem V5.keep{v:V}{m:Option bK}(h:V5 A H L S v m)(k:∀c o,S c->H c=some o->H' c=some o)(hS:∀c,S c->S' c):V5 A H' L S' v m:=by
 cases m with
 |none=>exact h
 |some m=>
  obtain ⟨ma,la,e,h1,h2,h3⟩:=h;exact ⟨ma,la,e,h1.keep (k ma · h2) (k la · h3),hS _ h2,hS _ h3⟩
theorem RecAt.keep{a:Addr}{e:Nat}{r:jw}(h:RecAt A H L S a e r)(ha:S a)(k:∀c o,S c->H c=some o->H' c=some o)(hS:∀c,S c->S' c):RecAt A H' L S' a e r:=by
 obtain ⟨dx,u,v,h1,h2,h3⟩:=h;exact ⟨dx,u,v,k a _ ha h1,h2.keep k hS,h3⟩
theorem bJ.keep(h:bJ A N H b B es L S)(k:∀c o,S c->H c=some o->H' c=some o):bJ A N H' b B es L S where
 ok:=h.ok
 bk:=let ⟨dx,e⟩:=h.bk;⟨dx,k _ _ h.own.1 e⟩
 us:=k _ _ h.own.2.1 h.us
 me:=k _ _ h.own.2.2.1 h.me
 pl:=k _ _ h.own.2.2.2.1 h.pl
 sc:=k _ _ h.own.2.2.2.2.1 h.sc
 re:=k _ _ h.own.2.2.2.2.2.1 h.re
 yE:=h.yE
 Cr:=h.Cr
 esl:=h.esl
 pat:=λi p a la e1 e2=>let q:=h.own.2.2.2.2.2.2.1 _ (aM e2);(h.pat i p a la e1 e2).keep (k a · q.1) (k la · q.2)
 rat:=λi r a e e1 e2 e3=>(h.rat i r a e e1 e2 e3).keep (h.own.2.2.2.2.2.2.2 _ (aM e2)) k λ_ z=>z
 Xw:=h.Xw
 Zx:=h.Zx
 ne:=h.ne
 Xv:=h.Xv
 own:=h.own
theorem bJ.same(h:bJ A N H b B es L S)(s:bh H H'):bJ A N H' b B es L S:=h.keep λc o _ e=>s c o e
end
theorem YJ{α:Type}{p q:α->Bool}:∀{l:List α},(∀a∈l,p a=q a)->l.find? p=l.find? q
 |[],_=>rfl
 |a::r,h=>by
  rw [jK,jK,h a (bz ..),YJ λx hx=>h x (aV _ hx)]
theorem Ph{α:Type}{p q:α->Bool}:∀{l:List α},(∀a∈l,p a=q a)->l.findIdx? p=l.findIdx? q
 |[],_=>rfl
 |a::r,h=>by
  rw [Fd,Fd,h a (bz ..),Ph λx hx=>h x (aV _ hx)]
theorem aiB(l:List dG)(z:Str):m7 (jJ l) (bW z)=(l.find? λu=>decide (tx u.name=z)).map λu=>V.int (u.rank:Int):=(by apply aj:aa (by
 induction l with
 |nil=>rfl
 |cons u r ih=>
  show m7 ((bW (tx u.name),V.int (u.rank:Int))::jJ r) (bW z)=_;by_cases h:tx u.name=z
  ·rw [xT (p:=((bW (tx u.name):Key),V.int (u.rank:Int))) (by rw [h]),jK,decide_eq_true h];rfl
  ·rw [xU (p:=((bW (tx u.name):Key),V.int (u.rank:Int))) (λq=>h (QL q)),jK,decide_eq_false h,ih]))
theorem Gq{N:Nat}{B:aC}(ok:BOk N B)(wd:List Nat):m7 (jJ B.users) (bW (tx (wd.map sg)))=(ir B wd).map λu=>V.int (u.rank:Int):=by
 rw [aiB];unfold ir;congr 1;apply YJ;intro u hu;have hk:=oA (ok.un u hu);have e:=Tt (u:=wd) (w:=u.name) hk;rw [iy,decide_eq_true_eq,beq_iff_eq];constructor
 ·intro q;exact (e.mp (Pz q).symm).symm
 ·intro q;rw [e.mpr q.symm]
theorem Xx:∀(l:List dw) (ps:List (Addr×Addr)) (z:Str),ps.length=l.length->m7 (eE l ps) (bW z)=((l.findIdx? λp=>decide (tx p.name=z)).bind λi=>ps[i]?).map λa=>V.ref a.1
 |[],[],z,_=>rfl
 |[],_::_,z,h=>by cases h
 |_::_,[],z,h=>by cases h
 |p::l,a::ps,z,h=>by
  show m7 ((bW (tx p.name),V.ref a.1)::eE l ps) (bW z)=_;by_cases e:tx p.name=z
  ·rw [xT (p:=((bW (tx p.name):Key),V.ref a.1)) (by rw [e]),Fd,decide_eq_true e];rfl
  ·rw [xU (p:=((bW (tx p.name):Key),V.ref a.1)) (λq=>e (QL q)),Fd,decide_eq_false e,Xx l ps z (by simpa using h)];cases l.findIdx? λp=>decide (tx p.name=z)<;>rfl
theorem CP{N:Nat}{B:aC}(ok:BOk N B){ps:List (Addr×Addr)}(hl:ps.length=B.places.length)(wd:List Nat):
  m7 (eE B.places ps) (bW (tx (wd.map sg)))=((dM B wd).bind λi=>ps[i]?).map λa=>V.ref a.1:=by
 rw [Xx _ _ _ hl];unfold dM;congr 2;apply Ph;intro p hp;have hk:=oA (ok.pn p hp);have e:=Tt (u:=wd) (w:=p.name) hk;rw [iy,decide_eq_true_eq,beq_iff_eq];constructor
 ·intro q;exact (e.mp (Pz q).symm).symm
 ·intro q;rw [e.mpr q.symm]
noncomputable def Oj (u:List Nat):V:=if aN u=true then .int (au u:Int) else wV u
structure After(A:uw)(N:Nat)(H:Hp)(b:Addr)(es:List Nat)(S:Addr->Prop)(r a dx:Addr)(e mo:Nat)(un:Str)(B':aC)(mv:Option bK)(H':Hp):Prop where
 ex:∃L' S' v,bJ A (N+1) H' b B' es L' S'/\V5 A H' L' S' v mv/\H' r=some (.ins A.cX dx (nW e mo un 0 false v))/\∀x,S' x->S x\/H x=none\/x=a
 fr:∀x o,H x=some o->¬S x->x≠r->H' x=some o
inductive Jp(A:uw)(c:String)(Pre:aC->dG->List (List Nat)->Prop)(vs:List V)(H:Hp)(Q:VK)(E:XK):Prop
 |mk (b r a:Addr) (N:Nat) (B:aC) (es:List Nat) (L:Lay) (S:Addr->Prop) (dx:Addr) (e mo:Nat) (u:dG) (us:List (List Nat)) (_:vs=[.ref b,.ref r,.ref a]) (_:bJ A N H b B es L S) (_:B.records.length<=N) (_:N<=10000) (_:¬S r) (_:H r=some (.ins A.cX dx (nW e mo (tx u.name) 0 false .non))) (_:¬S a) (_:H a=some (.lst (us.map Oj))) (_:us.length<=10000) (_:(∀w∈us,w.length<=10000)) (_:Pre B u us) (_:match fL B u (bT c::us) with | .error k=>∀H',bh H H'->Q (.int (k:Int)) H' | .ok x=>∀H',After A N H b es S r a dx e mo (tx u.name) x.1 x.2 H'->Q (.int 0) H')
theorem yo{u:List Nat}(h:aN u=true):Oj u= .int (au u:Int):=by unfold Oj;rw [if_pos h]
theorem uv{u:List Nat}(h:bj u=true):Oj u= .str (tx (u.map sg)):=by
 unfold Oj;rw [if_neg];intro q;unfold bj at h;unfold aN at q;cases u with
 |nil=>cases h
 |cons c r=>
  rw [bf] at h;simp only [bf,dH] at q;have h1:lG c=true:=h.1;have h2:=q.2.2.1 c (bz ..);unfold lG at h1;unfold dj at h2;simp only [bf,decide_eq_true_eq] at h1 h2;omega
theorem BOk.more{N:Nat}{B:aC}(h:BOk N B):BOk (N+1) B:={h with pk:=λp hp=>aY (h.pk p hp) (S6 _ (by omega))}
end
section
open Vbmiam
theorem RX(b:Books)(u:User)(args:List Bytes):command b u (text "user"::args)=(match args with
   |[n,r]=>guarded [(isName n&&isNumeral r,2),(decide (3<=u.rank),4),((userOf b n).isNone,5),(decide (b.users.length<USERS),7),(decide (1<=value r/\value r<=3),10)] ({b with users:=b.users++[{name:=n,rank:=value r}]},none)
   |_=>.error 2):=by
 unfold command;dsimp only;rw [if_pos rfl];rfl
theorem NQ(b:Books)(u:User)(args:List Bytes):command b u (text "metal"::args)=(match args with
   |[n]=>guarded [(isName n,2),(decide (2<=u.rank),4),(!b.metals.contains n,5),(b.places.isEmpty,11),(decide (b.metals.length<METALS),7)] ({b with metals:=b.metals++[n]},none)
   |_=>.error 2):=by
 unfold command;dsimp only;rw [if_neg (show ¬text "metal"=text "user" by decide+kernel),if_pos rfl];rfl
theorem NP(b:Books)(u:User)(args:List Bytes):command b u (text "place"::args)=(match args with
   |[n,k]=>guarded [(isName n&&(kindOf k).isSome,2),(decide (2<=u.rank),4),((placeOf b n).isNone,5),(decide (b.places.length<PLACES),7)]
     ({b with places:=b.places++[{name:=n,kind:=(kindOf k).getD .waste,kg:=0,metals:=b.metals.map λ_=>0,opened:=false}]},none)
   |_=>.error 2):=by
 unfold command;dsimp only;rw [if_neg (show ¬text "place"=text "user" by decide+kernel),if_neg (show ¬text "place"=text "metal" by decide+kernel),if_pos rfl];rfl
theorem R0(b:Books)(u:User)(args:List Bytes):command b u (text "open"::args)=(match args with
   |n::k::ms=>
    let i:=(placeOf b n).getD 0
    guarded [(isName n&&(isNumeral k&&(ms.all isNumeral&&decide (ms.length=b.metals.length))),2),(decide (2<=u.rank),4),((placeOf b n).isSome,6),(!(at_ b i).opened,5),((at_ b i).kind== .ground || (at_ b i).kind== .pile,9),(decide (value k<=KG)&&ms.all λm=>decide (value m<=METAL),10)]
     ({b with places:=b.places.modify i λp=>{p with kg:=p.kg+value k,metals:=more p.metals (ms.map value),opened:=true}},none)
   |_=>.error 2):=by
 unfold command;dsimp only;rw [if_neg (show ¬text "open"=text "user" by decide+kernel),if_neg (show ¬text "open"=text "metal" by decide+kernel),if_neg (show ¬text "open"=text "place" by decide+kernel),if_pos rfl];rfl
theorem R1(b:Books)(u:User)(args:List Bytes):command b u (text "move"::args)=(match args with
   |[f,t,k]=>
    let i:=(placeOf b f).getD 0
    let j:=(placeOf b t).getD 0
    let m:Move:={from_:=i,to_:=j,kg:=value k,metals:=shareOf (at_ b i) (value k)}
    guarded [(isName f&&(isName t&&isNumeral k),2),((placeOf b f).isSome&&(placeOf b t).isSome,6),(i != j&&moves (at_ b i).kind (at_ b j).kind,9),(decide (1<=value k/\value k<=KG),10),(decide (value k<=(at_ b i).kg),8)] (moved b m,some m)
   |_=>.error 2):=by
 unfold command;dsimp only;rw [if_neg (show ¬text "move"=text "user" by decide+kernel),if_neg (show ¬text "move"=text "metal" by decide+kernel),if_neg (show ¬text "move"=text "place" by decide+kernel),if_neg (show ¬text "move"=text "open" by decide+kernel),if_pos rfl];rfl
theorem RZ(b:Books)(u:User)(args:List Bytes):command b u (text "ship"::args)=(match args with
   |f::t::k::ms=>
    let i:=(placeOf b f).getD 0
    let j:=(placeOf b t).getD 0
    let m:Move:={from_:=i,to_:=j,kg:=value k,metals:=ms.map value}
    guarded [(isName f&&(isName t&&(isNumeral k&&(ms.all isNumeral&&decide (ms.length=b.metals.length)))),2),((placeOf b f).isSome&&(placeOf b t).isSome,6),(ships (at_ b i).kind (at_ b j).kind,9),(decide (1<=value k/\value k<=KG)&&ms.all λm=>decide (value m<=METAL),10),(has (at_ b i) (value k) (ms.map value),8)] (moved b m,some m)
   |_=>.error 2):=by
 unfold command;dsimp only;rw [if_neg (show ¬text "ship"=text "user" by decide+kernel),if_neg (show ¬text "ship"=text "metal" by decide+kernel),if_neg (show ¬text "ship"=text "place" by decide+kernel),if_neg (show ¬text "ship"=text "open" by decide+kernel),if_neg (show ¬text "ship"=text "move" by decide+kernel),if_pos rfl];rfl
theorem R3(b:Books)(u:User)(args:List Bytes):command b u (text "back"::args)=(match args with
   |[n]=>
    let r:=b.records.getD (value n - 1) {user:=[],code:=1,month:=0,move:=none,back:=true}
    match r.move with
    |none=>guarded [(isNumeral n,2),(decide (2<=u.rank),4)] (b,none) |>.bind λ_=>.error 11
    |some m=>
     let w:Move:={from_:=m.to_,to_:=m.from_,kg:=m.kg,metals:=m.metals}
     guarded [(isNumeral n,2),(decide (2<=u.rank),4),(decide (1<=value n/\value n<=b.records.length)&& !r.back,11),(r.user != u.name,12),(has (at_ b m.to_) m.kg m.metals,8)]
      (moved {b with records:=b.records.modify (value n - 1) λx=>{x with back:=true}} w,some w)
   |_=>.error 2):=(by apply aj:aa (by
 unfold command;dsimp only;rw [if_neg (show ¬text "back"=text "user" by decide+kernel),if_neg (show ¬text "back"=text "metal" by decide+kernel),if_neg (show ¬text "back"=text "place" by decide+kernel),if_neg (show ¬text "back"=text "open" by decide+kernel),if_neg (show ¬text "back"=text "move" by decide+kernel),if_neg (show ¬text "back"=text "ship" by decide+kernel),if_pos rfl];rfl))
theorem NT(b:Books)(u:User)(args:List Bytes):command b u (text "close"::args)=(match args with
   |[]=>guarded [(decide (3<=u.rank),4)] ({b with month:=b.month+1},none)
   |_=>.error 2):=(by apply aj:aa (by
 unfold command;dsimp only;rw [if_neg (show ¬text "close"=text "user" by decide+kernel),if_neg (show ¬text "close"=text "metal" by decide+kernel),if_neg (show ¬text "close"=text "place" by decide+kernel),if_neg (show ¬text "close"=text "open" by decide+kernel),if_neg (show ¬text "close"=text "move" by decide+kernel),if_neg (show ¬text "close"=text "ship" by decide+kernel),if_neg (show ¬text "close"=text "back" by decide+kernel),if_pos rfl];rfl))
theorem NK(b:Books)(u:User)(args:List Bytes):command b u (text "scale"::args)=(guarded [(!args.isEmpty&&(args.all isNumeral&&decide (args.length%2=0)),2),(decide (3<=u.rank),4),(decide (args.length<=12)&&(rising (pairsOf args)&&((pairsOf args).head?.any (λx=>x.1==0)&&(pairsOf args).all λx=>decide (x.1<=KG)&&decide (x.2<=1000000000))),10)] ({b with scale:=pairsOf args},none)):=(by apply aj:aa (by
 unfold command;dsimp only;rw [if_neg (show ¬text "scale"=text "user" by decide+kernel),if_neg (show ¬text "scale"=text "metal" by decide+kernel),if_neg (show ¬text "scale"=text "place" by decide+kernel),if_neg (show ¬text "scale"=text "open" by decide+kernel),if_neg (show ¬text "scale"=text "move" by decide+kernel),if_neg (show ¬text "scale"=text "ship" by decide+kernel),if_neg (show ¬text "scale"=text "back" by decide+kernel),if_neg (show ¬text "scale"=text "close" by decide+kernel),if_pos rfl]))
theorem Y5(b:Books)(u:User)(args:List Bytes):command b u (text "note"::args)= .ok (b,none):=(by apply aj:aa (by
 unfold command;dsimp only;rw [if_neg (show ¬text "note"=text "user" by decide+kernel),if_neg (show ¬text "note"=text "metal" by decide+kernel),if_neg (show ¬text "note"=text "place" by decide+kernel),if_neg (show ¬text "note"=text "open" by decide+kernel),if_neg (show ¬text "note"=text "move" by decide+kernel),if_neg (show ¬text "note"=text "ship" by decide+kernel),if_neg (show ¬text "note"=text "back" by decide+kernel),if_neg (show ¬text "note"=text "close" by decide+kernel),if_neg (show ¬text "note"=text "scale" by decide+kernel),if_pos rfl]))
end
section
open PySem PySem.Spec PyProof.Rows
section
variable {P:Program} {w:World} {K:az} {mg:Str->Option Value} {base:Heap} {A:uw}
theorem FZ(c:Nat)(l:List (Bool×Nat))(k:aC×Option bK):jA ((true,c)::l) k=jA l k:=rfl
theorem Np(c:Nat)(l:List (Bool×Nat))(k:aC×Option bK):jA ((false,c)::l) k= .error c:=rfl
theorem Pb(k:aC×Option bK):jA [] k= .ok k:=rfl
theorem Nj{α:Type}{l:List α}{x:α}(h:l.Nodup)(hx:¬x∈l):(l++[x]).Nodup:=by
 rw [Jj];refine ⟨h,by simp,λa ha b hb e=>hx ?_⟩;rw [<-fJ.mp hb,<-e];exact ha
structure Apart(A:uw)(H:Hp)(b:Addr)(B:aC)(L:Lay)(x:Addr):Prop where
 ps:∀a∈L.ps,a.1≠x/\a.2≠x
 rs:∀a∈L.rs,a≠x
 ma:∀ma la m,qI A H L ma la m->ma≠x/\la≠x
theorem bJ.Ko{N:Nat}{H:Hp}{b:Addr}{B:aC}{es:List Nat}{L:Lay}{S:Addr->Prop}{x:Addr}{o:HO}(h:bJ A N H b B es L S)(ap:Apart A H b B L x):
  ∀(i:Nat) (r:jw) (a:Addr) (e:Nat),B.records[i]? =some r->L.rs[i]? =some a->es[i]? =some e->RecAt A (upd H x o) L S a e r:=(by apply aj:aa (by
 intro i r a e e1 e2 e3;obtain ⟨dx,u,v,h1,h2,h3⟩:=h.rat i r a e e1 e2 e3;refine ⟨dx,u,v,by rw [aF (ap.rs a (aM e2))];exact h1,?_,h3⟩;cases hm:r.move with
 |none=>rw [hm] at h2;exact h2
 |some m=>
  rw [hm] at h2;obtain ⟨ma,la,ev,q1,q2,q3⟩:=h2;obtain ⟨n1,n2⟩:=ap.ma ma la m q1;exact ⟨ma,la,ev,q1.keep (λo e=>by rw [aF n1];exact e) (λo e=>by rw [aF n2];exact e),q2,q3⟩))
theorem bJ.Ku{N:Nat}{H:Hp}{b:Addr}{B:aC}{es:List Nat}{L:Lay}{S:Addr->Prop}{x:Addr}{o:HO}(h:bJ A N H b B es L S)(ap:Apart A H b B L x):
  ∀(i:Nat) (p:dw) (a la:Addr),B.places[i]? =some p->L.ps[i]? =some (a,la)->Dr A (upd H x o) a la (i+1) p:=λi p a la e1 e2=>by
 obtain ⟨n1,n2⟩:=ap.ps _ (aM e2);exact (h.pat i p a la e1 e2).keep (λo e=>by rw [aF n1];exact e) (λo e=>by rw [aF n2];exact e)
theorem bJ.wK{N:Nat}{H:Hp}{b:Addr}{B:aC}{es:List Nat}{L:Lay}{S:Addr->Prop}(h:bJ A N H b B es L S){a la:Addr}(ha:(a,la)∈L.ps):∃n p,Dr A H a la n p:=by
 obtain ⟨i,hi⟩:=QV ha;have hlt:i<B.places.length:=by rw [<-h.yE];exact (aQ.mp hi).1
 exact ⟨_,_,h.pat i _ a la (ak hlt) hi⟩
theorem bJ.RM{N:Nat}{H:Hp}{b:Addr}{B:aC}{es:List Nat}{L:Lay}{S:Addr->Prop}(h:bJ A N H b B es L S){a:Addr}(ha:a∈L.rs):∃e r,RecAt A H L S a e r:=by
 obtain ⟨i,hi⟩:=QV ha;have hlt:i<B.records.length:=by rw [<-h.Cr];exact (aQ.mp hi).1
 have hle:i<es.length:=by rw [h.esl];exact hlt
 exact ⟨_,_,h.rat i _ a _ (ak hlt) hi (ak hle)⟩
theorem bJ.Y9{N:Nat}{H:Hp}{b:Addr}{B:aC}{es:List Nat}{L:Lay}{S:Addr->Prop}(h:bJ A N H b B es L S){x:Addr}{kvs:List (Key×V)}(hx:H x=some (.dK kvs)):Apart A H b B L x where
 ps:=λa ha=>by
  obtain ⟨n,p,⟨dx,e1⟩,e2⟩:=h.wK (a:=a.1) (la:=a.2) ha;exact ⟨dC e1 hx (by intro z;cases z),dC e2 hx (by intro z;cases z)⟩
 rs:=λa ha=>by
  obtain ⟨e,r,dx,u,v,e1,_⟩:=h.RM ha;exact dC e1 hx (by intro z;cases z)
 ma:=λma la m q=>by
  obtain ⟨dx,sa,ta,e1,_⟩:=q.ob;exact ⟨dC e1 hx (by intro z;cases z),dC q.am hx (by intro z;cases z)⟩
theorem adB(l:List dG)(u:dG):jJ (l++[u])=jJ l++[(bW (tx u.name),V.int (u.rank:Int))]:=by unfold jJ;rw [cT];rfl
theorem bJ.ala{N:Nat}{H:Hp}{b:Addr}{B:aC}{es:List Nat}{L:Lay}{S:Addr->Prop}(h:bJ A N H b B es L S){u:dG}(hn:bj u.name=true)(hnew:¬u.name∈B.users.map (·.name))(h8:B.users.length<8)(h3:1<=u.rank/\u.rank<=3):
  bJ A N (upd H L.us (.dK (jJ (B.users++[u])))) b {B with users:=B.users++[u]} es L S:=(by apply aj:aa (by
 have ap:=h.Y9 h.us;obtain ⟨dx,hb⟩:=h.bk;exact
 {ok:={h.ok with
   us:=by rw [aJ];simp only [aH,bF];omega
   un:=λx hx=>by
    rcases d8.mp hx with q | q
    ·exact h.ok.un x q
    ·rw [fJ.mp q];exact hn
   ur:=λx hx=>by
    rcases d8.mp hx with q | q
    ·exact h.ok.ur x q
    ·rw [fJ.mp q];exact h3
   ud:=by
    show ((B.users++[u]).map (·.name)).Nodup;rw [cT];exact Nj h.ok.ud hnew}
  bk:=⟨dx,by rw [aF (dC hb h.us (by intro z;cases z))];exact hb⟩
  us:=aD
  me:=by rw [aF (dC h.me h.us (by intro z;cases z))];exact h.me
  pl:=by rw [aF (cO h.ne.1)];exact h.pl
  sc:=by rw [aF (dC h.sc h.us (by intro z;cases z))];exact h.sc
  re:=by rw [aF (dC h.re h.us (by intro z;cases z))];exact h.re
  yE:=h.yE
  Cr:=h.Cr
  esl:=h.esl
  pat:=h.Ku ap
  rat:=h.Ko ap
  Xw:=h.Xw
  Zx:=h.Zx
  ne:=h.ne
  Xv:=h.Xv
  own:=h.own}))
theorem bJ.more{N:Nat}{H:Hp}{b:Addr}{B:aC}{es:List Nat}{L:Lay}{S:Addr->Prop}(h:bJ A N H b B es L S):bJ A (N+1) H b B es L S:={h with ok:=h.ok.more}
theorem aiD{B:aC}{n:List Nat}(h:ir B n=none):¬n∈B.users.map (·.name):=by
 intro q;obtain ⟨u,hu,e⟩:=cF.mp q;have:=List.find?_eq_none.mp h u hu;exact this (beq_iff_eq.mpr e)
def ab5(B:aC)(u:dG)(us:List (List Nat)):Prop:=∃n r,us=[n,r]/\bj n=true/\aN r=true/\3<=u.rank
theorem af7(T:Txt P w K mg A):fU P w K mg base mU 1 A.Nr A.Bs M9 (Jp A "user" ab5):=(by apply aj:aa (by
 refine T.Mw.ok PN (λvs H Q E h=>?_) (λcdv A' outer s H vs Q E hr h=>?_)
 ·obtain ⟨b,r,a,N,B,es,L,S,dx,e,mo,u,us,rfl,_⟩:=h;rfl
 ·obtain ⟨b,r,a,N,B,es,L,S,dx,e,mo,u,us,rfl,hB,hN,hN2,hr1,hr2,ha1,ha2,_,_,⟨n,k,rfl,hn,hk,hrk⟩,q⟩:=h;refine ⟨_,(aL (lL 3 PN.nd (iG fP (pv 2) bG (λ_ _=>rfl)))
   (aL (lL 4 PN.nd (iG fP (pv 2) bG (λ_ _=>rfl)))
   (aL (dW (afZ (af3 (hu1 hr) (pv 3) (aO (pv 0) rfl))) (aK (bB (bH T.vB))) b7)
   (aL (dW (bZ ahN (cH wM rfl T.jG bI (aq (aO (pv 0) rfl) aG)) (bH T.acC) (cP _)) (aK (bB (bH T.Ua))) b7)
   (aL (dW (kO (qd ni ni bG (pv 4) (bH T.Yj))) (aK (bB (bH T.kh))) b7)
   (aL (ahH (hu1 hr) (aO (pv 0) rfl) (pv 3) (pv 4) rfl)
   (aK (bB (bH T.Bo))))))))),?_⟩
  rw [bu,bu,jE,uv hn,yo hk] at ha2;obtain ⟨BV,hb⟩:=hB.bk;walk_at "rd";refine ⟨_,cY.of ha2,_,fH (j:=0) rfl,_,cY.of ha2,_,fH (j:=1) rfl,_,_,_,hb,T.cN,T.jq,_,rfl,_,rfl,_,Et.k (k:=bW (tx (n.map sg))) hB.us,?_⟩;rw [RX] at q;dsimp only at q;rw [hn,hk,dF,FZ,decide_eq_true hrk,FZ] at q;rw [Gq hB.ok];cases hu:ir B n with
  |some x=>
   rw [hu,Option.isNone_some,Np] at q;simp only [vX,gG,↓reduceIte];exact q H (bh.refl H)
  |none=>
   rw [hu,Option.isNone_none,FZ] at q;simp only [Ot,jk,cD,↓reduceIte];refine ⟨_,_,_,hb,T.cN,T.jq,_,rfl,_,rfl,_,hB.us,?_⟩;have el:(jJ B.users).length=B.users.length:=ao ..;rw [el];by_cases h8:B.users.length<Vbmiam.USERS
   ·rw [decide_eq_true h8,FZ] at q;have h8:B.users.length<8:=h8;rw [if_neg (by omega)];refine ⟨_,rfl,?_⟩;by_cases h3:1<=au k/\au k<=3
    ·rw [decide_eq_true h3,FZ,Pb] at q;dsimp only at q;rw [if_pos (by omega)];refine ⟨_,rfl,?_⟩;rw [if_neg (by omega)];have hsl:sizeLine=16777216:=sizeLine_eq;refine ⟨_,_,_,hb,T.cN,T.jq,_,rfl,_,rfl,_,akd.k (k:=bW (tx (n.map sg))) hB.us (by rw [el];omega),?_⟩;have es1:n.map sg=n:=um (oA hn);have ev:m7 (jJ B.users) (bW (tx (n.map sg)))=none:=by rw [Gq hB.ok,hu];rfl
     have ep:putK (jJ B.users) (bW (tx (n.map sg))) (V.int (au k:Int))=jJ (B.users++[{name:=n,rank:=au k}]):=by
      rw [Xn _ ev,adB,es1]
     rw [ep];have hB2:=(hB.ala (u:={name:=n,rank:=au k}) hn (aiD hu) h8 h3).more;refine q _ ⟨⟨L,S,.non,hB2,rfl,?_,λx hx=>.inl hx⟩,λx o hx hS hxr=>?_⟩
     ·rw [aF (dC hr2 hB.us (by intro z;cases z))];exact hr2
     ·rw [aF (λz=>hS (by rw [z];exact hB.own.2.1))];exact hx
    ·rw [decide_eq_false h3,Np] at q;have q1:=q H (bh.refl H);split
     ·refine ⟨_,rfl,?_⟩;rw [if_pos (by omega)];exact q1
     ·exact q1
   ·rw [decide_eq_false h8,Np] at q;have h8:¬B.users.length<8:=h8;rw [if_pos (by omega)];exact q H (bh.refl H)))
def ab8(B:aC)(u:dG)(us:List (List Nat)):Prop:=True
theorem af9(T:Txt P w K mg A):fU P w K mg base mU 1 A.Nu A.Bu Nf (Jp A "note" ab8):=(by apply aj:aa (by
 refine T.My.ok afW (λvs H Q E h=>?_) (λcdv A' outer s H vs Q E hr h=>?_)
 ·obtain ⟨b,r,a,N,B,es,L,S,dx,e,mo,u,us,rfl,_⟩:=h;rfl
 ·obtain ⟨b,r,a,N,B,es,L,S,dx,e,mo,u,us,rfl,hB,hN,hN2,hr1,hr2,ha1,ha2,_,_,_,q⟩:=h;refine ⟨_,(aK (bB (bH T.Bo))),?_⟩;rw [Y5] at q;walk_at "rd";exact q H ⟨⟨L,S,.non,hB.more,rfl,hr2,λx hx=>.inl hx⟩,λx o hx _ _=>hx⟩))
theorem bJ.Vm{N:Nat}{H:Hp}{b:Addr}{B:aC}{es:List Nat}{L:Lay}{S:Addr->Prop}(T:Txt P w K mg A)(h:bJ A N H b B es L S):Apart A H b B L b where
 ps:=λa ha=>by
  obtain ⟨n,p,⟨dx,e1⟩,e2⟩:=h.wK (a:=a.1) (la:=a.2) ha;obtain ⟨BV,hb⟩:=h.bk;exact ⟨dC e1 hb (by intro z;injection z with z1 _ _;exact T.Kz z1),dC e2 hb (by intro z;cases z)⟩
 rs:=λa ha=>by
  obtain ⟨e,r,dx,u,v,e1,_⟩:=h.RM ha;obtain ⟨BV,hb⟩:=h.bk;exact dC e1 hb (by intro z;injection z with z1 _ _;exact T.Jv z1)
 ma:=λma la m q=>by
  obtain ⟨dx,sa,ta,e1,_⟩:=q.ob;obtain ⟨BV,hb⟩:=h.bk;exact ⟨dC e1 hb (by intro z;injection z with z1 _ _;exact T.aas z1),dC q.am hb (by intro z;cases z)⟩
theorem bJ.aiY{N:Nat}{H:Hp}{b dx:Addr}{B:aC}{es:List Nat}{L:Lay}{S:Addr->Prop}(T:Txt P w K mg A)(h:bJ A N H b B es L S)(m:Nat)(hb:H b=some (.ins A.gh dx (Qt L.us L.me L.pl B.month L.sc L.re))):
  bJ A N (upd H b (.ins A.gh dx (Qt L.us L.me L.pl m L.sc L.re))) b {B with month:=m} es L S:=(by apply aj:aa (by
 have ap:=h.Vm T;exact
 {ok:={h.ok with}
  bk:=⟨dx,aD⟩
  us:=by rw [aF (dC h.us hb (by intro z;cases z))];exact h.us
  me:=by rw [aF (dC h.me hb (by intro z;cases z))];exact h.me
  pl:=by rw [aF (dC h.pl hb (by intro z;cases z))];exact h.pl
  sc:=by rw [aF (dC h.sc hb (by intro z;cases z))];exact h.sc
  re:=by rw [aF (dC h.re hb (by intro z;cases z))];exact h.re
  yE:=h.yE
  Cr:=h.Cr
  esl:=h.esl
  pat:=h.Ku ap
  rat:=h.Ko ap
  Xw:=h.Xw
  Zx:=h.Zx
  ne:=h.ne
  Xv:=h.Xv
  own:=h.own}))
def Xu(B:aC)(u:dG)(us:List (List Nat)):Prop:=us=[]/\3<=u.rank
theorem aem(T:Txt P w K mg A):fU P w K mg base mU 1 A.HR A.yl Hr (Jp A "close" Xu):=(by apply aj:aa (by
 refine T.Gx.ok adW (λvs H Q E h=>?_) (λcdv A' outer s H vs Q E hr h=>?_)
 ·obtain ⟨b,r,a,N,B,es,L,S,dx,e,mo,u,us,rfl,_⟩:=h;rfl
 ·obtain ⟨b,r,a,N,B,es,L,S,dx,e,mo,u,us,rfl,hB,hN,hN2,hr1,hr2,ha1,ha2,_,_,⟨rfl,hrk⟩,q⟩:=h;refine ⟨_,(aL (ai0 (pv 0) bG apd)
   (aK (bB (bH T.Bo)))),?_⟩
  rw [NT] at q;dsimp only at q;rw [decide_eq_true hrk,FZ,Pb] at q;dsimp only at q;obtain ⟨BV,hb⟩:=hB.bk;walk_at "rd";refine ⟨_,_,_,hb,T.cN,T.jR,_,rfl,_,rfl,_,_,hb,of_decide_eq_true rfl,?_⟩;have hB2:=(hB.aiY T (B.month+1) hb).more;have nbr:r≠b:=λz=>hr1 (by rw [z];exact hB.own.1);exact q _ ⟨⟨L,S,.non,hB2,rfl,by rw [aF nbr];exact hr2,λx hx=>.inl hx⟩,λx o hx hS hxr=>by rw [aF (λz=>hS (by rw [z];exact hB.own.1))];exact hx⟩))
theorem bJ.ac0{N:Nat}{H:Hp}{b:Addr}{B:aC}{es:List Nat}{L:Lay}{S:Addr->Prop}(h:bJ A N H b B es L S):Apart A H b B L L.me where
 ps:=λa ha=>by
  obtain ⟨n,p,⟨dx,e1⟩,e2⟩:=h.wK (a:=a.1) (la:=a.2) ha;exact ⟨dC e1 h.me (by intro z;cases z),(h.Xv a ha).1⟩
 rs:=λa ha=>by
  obtain ⟨e,r,dx,u,v,e1,_⟩:=h.RM ha;exact dC e1 h.me (by intro z;cases z)
 ma:=λma la m q=>by
  obtain ⟨dx,sa,ta,e1,_⟩:=q.ob;exact ⟨dC e1 h.me (by intro z;cases z),q.ne.1⟩
theorem bJ.aiZ{N:Nat}{H:Hp}{b:Addr}{B:aC}{es:List Nat}{L:Lay}{S:Addr->Prop}(h:bJ A N H b B es L S){n:List Nat}(hn:bj n=true)(hp:B.places=[])(h2:B.metals.length<2):
  bJ A N (upd H L.me (.lst ((B.metals++[n]).map λm=>V.str (tx m)))) b {B with metals:=B.metals++[n]} es L S:=(by apply aj:aa (by
 have ap:=h.ac0;obtain ⟨dx,hb⟩:=h.bk;exact
 {ok:={h.ok with
   me:=by rw [aJ];simp only [aH,bF];omega
   mn:=λx hx=>by
    rcases d8.mp hx with q | q
    ·exact h.ok.mn x q
    ·rw [fJ.mp q];exact hn
   pm:=λp hpp=>by have hpp:p∈B.places:=hpp;rw [hp] at hpp;cases hpp
   mv:=λr hr m hm=>by
    have q:=(h.ok.mv r hr m hm).1;rw [hp] at q;exact absurd q (Nat.not_lt_zero _)}
  bk:=⟨dx,by rw [aF (dC hb h.me (by intro z;cases z))];exact hb⟩
  us:=by rw [aF (dC h.us h.me (by intro z;cases z))];exact h.us
  me:=aD
  pl:=by rw [aF (dC h.pl h.me (by intro z;cases z))];exact h.pl
  sc:=by rw [aF (cO h.ne.2.1)];exact h.sc
  re:=by rw [aF (cO h.ne.2.2.1)];exact h.re
  yE:=h.yE
  Cr:=h.Cr
  esl:=h.esl
  pat:=h.Ku ap
  rat:=h.Ko ap
  Xw:=h.Xw
  Zx:=h.Zx
  ne:=h.ne
  Xv:=h.Xv
  own:=h.own}))
theorem aeA{N:Nat}{B:aC}(ok:BOk N B)(n:List Nat):inV (.str (tx (n.map sg))) (B.metals.map λm=>V.str (tx m))=B.metals.contains n:=by
 have e:(B.metals.map λm=>V.str (tx m))=(B.metals.map tx).map V.str:=by rw [cG];rfl
 rw [e,Yv,iy,decide_eq_true_eq,akk,cF];constructor
 ·rintro ⟨m,hm,q⟩;rw [(Tt (oA (ok.mn m hm))).mp (Pz q).symm];exact hm
 ·intro q;exact ⟨n,q,by rw [um (oA (ok.mn n q))]⟩
def Xr(B:aC)(u:dG)(us:List (List Nat)):Prop:=∃n,us=[n]/\bj n=true/\2<=u.rank
theorem ael(T:Txt P w K mg A):fU P w K mg base mU 1 A.HQ A.yj Hq (Jp A "metal" Xr):=(by apply aj:aa (by
 refine T.Gw.ok U9 (λvs H Q E h=>?_) (λcdv A' outer s H vs Q E hr h=>?_)
 ·obtain ⟨b,r,a,N,B,es,L,S,dx,e,mo,u,us,rfl,_⟩:=h;rfl
 ·obtain ⟨b,r,a,N,B,es,L,S,dx,e,mo,u,us,rfl,hB,hN,hN2,hr1,hr2,ha1,ha2,_,_,⟨n,rfl,hn,hrk⟩,q⟩:=h;refine ⟨_,(aL (lL 3 U9.nd (iG fP (pv 2) bG (λ_ _=>rfl)))
   (aL (dW (bZ Ni (pv 3) (aO (pv 0) rfl) rfl) (aK (bB (bH T.vB))) b7)
   (aL (dW (bZ O2 (cH wM rfl T.jG bI (aq (aO (pv 0) rfl) aG)) bG (cP _)) (aK (bB (bH T.Ub))) b7)
   (aL (dW (bZ ahN (cH cW rfl T.jG bI (aq (aO (pv 0) rfl) aG)) (bH T.aax) (cP _)) (aK (bB (bH T.Ua))) b7)
   (aL (jn (rM bY gR gQ uo (aO (pv 0) rfl) (aq (pv 3) aG)))
   (aK (bB (bH T.Bo)))))))),?_⟩
  rw [bu,jE,uv hn] at ha2;obtain ⟨BV,hb⟩:=hB.bk;rw [NQ] at q;dsimp only at q;rw [hn,FZ,decide_eq_true hrk,FZ] at q;walk_at "rd";refine ⟨_,cY.of ha2,_,fH (j:=0) rfl,_,_,_,hb,T.cN,T.jt,_,rfl,_,rfl,_,.inl (cY.of hB.me),rfl,?_,?_⟩
  ·rw [tR];exact dH.mpr λ_ _=>rfl
  ·rw [aeA hB.ok];cases hc:B.metals.contains n with
   |true=>
    rw [hc,gV,Np] at q;simp only [↓reduceIte];exact q H (bh.refl H)
   |false=>
    rw [hc,gn,FZ] at q;simp only [cD,↓reduceIte];refine ⟨_,_,_,hb,T.cN,T.fG,_,rfl,_,rfl,_,hB.pl,?_⟩;have el:(eE B.places L.ps).length=B.places.length:=by
     unfold eE;rw [iT,hB.yE,xM]
    rw [el];cases hp:B.places with
    |cons p ps=>
     rw [hp,List.isEmpty_cons,Np] at q;rw [if_pos (by simp only [aH];omega)];exact q H (bh.refl H)
    |nil=>
     rw [hp,List.isEmpty_nil,FZ] at q;rw [if_neg (by simp)];refine ⟨_,_,_,hb,T.cN,T.jt,_,rfl,_,rfl,_,.inl (cY.of hB.me),?_⟩;rw [ao];by_cases h2:B.metals.length<Vbmiam.METALS
     ·rw [decide_eq_true h2,FZ,Pb] at q;have h2:B.metals.length<2:=h2;dsimp only at q;rw [if_neg (by omega)];have hsl:sizeLine=16777216:=sizeLine_eq;refine ⟨_,_,_,hb,T.cN,T.jt,_,rfl,.inl ⟨rfl,_,cY.of hB.me⟩,_,rfl,_,hB.me,by rw [ao];omega,?_⟩;have es1:n.map sg=n:=um (oA hn);have ep:((B.metals.map λm=>V.str (tx m))++[V.str (tx (n.map sg))])=(B.metals++[n]).map λm=>V.str (tx m):=by
       rw [cT,es1];rfl
      rw [ep];have hB2:=(hB.aiZ hn hp h2).more;rw [hp] at hB2;refine q _ ⟨⟨L,S,.non,hB2,rfl,?_,λx hx=>.inl hx⟩,λx o hx hS hxr=>?_⟩
      ·rw [aF (dC hr2 hB.me (by intro z;cases z))];exact hr2
      ·rw [aF (λz=>hS (by rw [z];exact hB.own.2.2.1))];exact hx
     ·rw [decide_eq_false h2,Np] at q;have h2:¬B.metals.length<2:=h2;rw [if_pos (by omega)];exact q H (bh.refl H)))
theorem acb{l:List dw}{ps:List (Addr×Addr)}(h:ps.length=l.length)(p:dw)(a:Addr×Addr):eE (l++[p]) (ps++[a])=eE l ps++[(bW (tx p.name),V.ref a.1)]:=by
 unfold eE;rw [List.zipWith_append h.symm];rfl
theorem bJ.aj3{N:Nat}{H H2:Hp}{b x la dx:Addr}{B:aC}{es:List Nat}{L:Lay}{S:Addr->Prop}{p:dw}(h:bJ A N H b B es L S)(hx:H2 x=some (.ins A.fW dx (uT (B.places.length+1) (eF p.kind) p.opened la)))(hla:H2 la=some (.lst (bV (p.kg::p.metals))))(fx:H x=none)(fla:H la=none)(keep:∀c o,H c=some o->c≠L.pl->H2 c=some o)(hpl:H2 L.pl=some (.dK (eE (B.places++[p]) (L.ps++[(x,la)]))))(hn:bj p.name=true)(hnew:¬p.name∈B.places.map (·.name))(h12:B.places.length<12)(hm:p.metals.length=B.metals.length)(hk:p.kg<=eY*N):
  bJ A N H2 b {B with places:=B.places++[p]} es {L with ps:=L.ps++[(x,la)]} λc=>S c\/c=x\/c=la:=(by apply aj:aa (by
 have ap:=h.Y9 h.pl;obtain ⟨BV,hb⟩:=h.bk;have mvk:∀(ma l2:Addr) (m:bK),m.from_<B.places.length->m.to_<B.places.length->qI A H L ma l2 m->qI A H2 {L with ps:=L.ps++[(x,la)]} ma l2 m:=λma l2 m i1 i2 q=>by
  obtain ⟨d,sa,ta,e1,e2,e3⟩:=q.ob;obtain ⟨n1,n2⟩:=ap.ma ma l2 m q;refine ⟨⟨d,sa,ta,keep _ _ e1 n1,?_,?_⟩,keep _ _ q.am n2,q.ne⟩
  ·show ((L.ps++[(x,la)])[m.from_]?).map (·.1)=_;rw [eG (by rw [h.yE];exact i1)];exact e2
  ·show ((L.ps++[(x,la)])[m.to_]?).map (·.1)=_;rw [eG (by rw [h.yE];exact i2)];exact e3
 exact
 {ok:={h.ok with
   ps:=by
    show (B.places++[p]).length<=12;rw [aJ];simp only [aH,bF];omega
   pn:=λy hy=>by
    rcases d8.mp hy with q | q
    ·exact h.ok.pn y q
    ·rw [fJ.mp q];exact hn
   pd:=by
    show ((B.places++[p]).map (·.name)).Nodup;rw [cT];exact Nj h.ok.pd hnew
   pm:=λy hy=>by
    rcases d8.mp hy with q | q
    ·exact h.ok.pm y q
    ·rw [fJ.mp q];exact hm
   pk:=λy hy=>by
    rcases d8.mp hy with q | q
    ·exact h.ok.pk y q
    ·rw [fJ.mp q];exact hk
   mv:=λr hr m hm=>by
    obtain ⟨q1,q2,q3⟩:=h.ok.mv r hr m hm;refine ⟨?_,?_,q3⟩
    ·show m.from_<(B.places++[p]).length;rw [aJ];omega
    ·show m.to_<(B.places++[p]).length;rw [aJ];omega}
  bk:=⟨BV,keep _ _ hb (dC hb h.pl (by intro z;cases z))⟩
  us:=keep _ _ h.us h.ne.1
  me:=keep _ _ h.me (dC h.me h.pl (by intro z;cases z))
  pl:=hpl
  sc:=keep _ _ h.sc (dC h.sc h.pl (by intro z;cases z))
  re:=keep _ _ h.re (dC h.re h.pl (by intro z;cases z))
  yE:=by
   show (L.ps++[(x,la)]).length=(B.places++[p]).length;rw [aJ,aJ,h.yE];rfl
  Cr:=h.Cr
  esl:=h.esl
  pat:=λi y a l2 e1 e2=>by
   have e1:(B.places++[p])[i]? =some y:=e1;have e2:(L.ps++[(x,la)])[i]? =some (a,l2):=e2;by_cases hi:i<B.places.length
   ·rw [eG hi] at e1;rw [eG (by rw [h.yE];exact hi)] at e2;obtain ⟨n1,n2⟩:=ap.ps _ (aM e2);exact (h.pat i y a l2 e1 e2).keep (λo e=>keep _ _ e n1) (λo e=>keep _ _ e n2)
   ·have hi2:i<(B.places++[p]).length:=(aQ.mp e1).1;rw [aJ] at hi2;simp only [aH,bF] at hi2;have ei:i=B.places.length:=by omega
    subst ei;rw [fB (aU _),pQ] at e1;rw [fB (by rw [h.yE];exact aU _),h.yE,pQ] at e2;cases aB e1;cases aB e2;exact ⟨⟨dx,hx⟩,hla⟩
  rat:=λi r a e e1 e2 e3=>by
   obtain ⟨d,u,v,q1,q2,q3⟩:=h.rat i r a e e1 e2 e3;refine ⟨d,u,v,keep _ _ q1 (ap.rs a (aM e2)),?_,q3⟩;cases hm:r.move with
   |none=>rw [hm] at q2;exact q2
   |some m=>
    rw [hm] at q2;obtain ⟨ma,l2,ev,y1,y2,y3⟩:=q2;obtain ⟨i1,i2,_⟩:=h.ok.mv r (aM e1) m hm;exact ⟨ma,l2,ev,mvk ma l2 m i1 i2 y1,.inl y2,.inl y3⟩
  Xw:=by
   show ((L.ps++[(x,la)]).map (·.1)).Nodup;rw [cT];refine Nj h.Xw λq=>?_;obtain ⟨a,ha,ea⟩:=cF.mp q;obtain ⟨n,y,⟨d,e1⟩,_⟩:=h.wK (a:=a.1) (la:=a.2) ha;rw [show a.1=x from ea,fx] at e1;cases e1
  Zx:=h.Zx
  ne:=h.ne
  Xv:=λa ha=>by
   rcases d8.mp ha with q | q
   ·exact h.Xv a q
   ·rw [fJ.mp q];exact ⟨λz=>(by have z:la=L.me:=z;rw [z,h.me] at fla;cases fla),λz=>(by have z:la=L.re:=z;rw [z,h.re] at fla;cases fla)⟩
  own:=by
   obtain ⟨o1,o2,o3,o4,o5,o6,o7,o8⟩:=h.own;refine ⟨.inl o1,.inl o2,.inl o3,.inl o4,.inl o5,.inl o6,λa ha=>?_,λa ha=>.inl (o8 a ha)⟩;rcases d8.mp ha with q | q
   ·exact ⟨.inl (o7 a q).1,.inl (o7 a q).2⟩
   ·rw [fJ.mp q];exact ⟨.inr (.inl rfl),.inr (.inr rfl)⟩}))
theorem ahv(s:String):tx (bT s)=bA s:=by
 apply TL.agK;rw [TL.adG];rfl
theorem ajn{k:List Nat}{kd:eU}(h:uz k=some kd):tx (k.map sg)=eF kd/\Oj k= .str (eF kd):=(by apply aj:aa (by
 have go:∀s:String,k=bT s->(bT s).map sg=bT s->aN (bT s)=false->bA s=eF kd->tx (k.map sg)=eF kd/\Oj k= .str (eF kd):=λs e1 e2 e3 e4=>by
  subst e1;have e5:tx ((bT s).map sg)=eF kd:=by rw [e2,ahv,e4]
  refine ⟨e5,?_⟩;unfold Oj;rw [e3,if_neg (by decide)];show V.str (tx ((bT s).map sg))=_;rw [e5]
 unfold uz at h;split at h
 ·cases h;exact go "ground" (by assumption) (by decide+kernel) (by decide+kernel) rfl
 ·split at h
  ·cases h;exact go "pile" (by assumption) (by decide+kernel) (by decide+kernel) rfl
  ·split at h
   ·cases h;exact go "plant" (by assumption) (by decide+kernel) (by decide+kernel) rfl
   ·split at h
    ·cases h;exact go "waste" (by assumption) (by decide+kernel) (by decide+kernel) rfl
    ·split at h
     ·cases h;exact go "sold" (by assumption) (by decide+kernel) (by decide+kernel) rfl
     ·cases h))
theorem af1{B:aC}{n:List Nat}(h:dM B n=none):¬n∈B.places.map (·.name):=by
 intro q;obtain ⟨u,hu,e⟩:=cF.mp q;have:=Gp.mp h u hu;rw [beq_iff_eq.mpr e] at this;cases this
theorem bJ.af2{N:Nat}{H:Hp}{b:Addr}{B:aC}{es:List Nat}{L:Lay}{S:Addr->Prop}(h:bJ A N H b B es L S):(eE B.places L.ps).length=B.places.length:=by
 unfold eE;rw [iT,h.yE,xM]
def Xq(B:aC)(u:dG)(us:List (List Nat)):Prop:=∃n k,us=[n,k]/\bj n=true/\(uz k).isSome=true/\2<=u.rank
theorem aek(T:Txt P w K mg A):fU P w K mg base mU 3 A.HN A.yh Ho (Jp A "place" Xq):=(by apply aj:aa (by
 have adi:=aap (base:=base) T;refine T.Gv.ok U8 (λvs H Q E h=>?_) (λcdv A' outer s H vs Q E hr h=>?_)
 ·obtain ⟨b,r,a,N,B,es,L,S,dx,e,mo,u,us,rfl,_⟩:=h;rfl
 ·obtain ⟨b,r,a,N,B,es,L,S,dx,e,mo,u,us,rfl,hB,hN,hN2,hr1,hr2,ha1,ha2,_,_,⟨n,k,rfl,hn,hk,hrk⟩,q⟩:=h;refine ⟨_,(aL (lL 3 U8.nd (iG fP (pv 2) bG (λ_ _=>rfl)))
   (aL (dW (afZ (af3 (hu1 hr) (pv 3) (aO (pv 0) rfl))) (aK (bB (bH T.vB))) b7)
   (aL (dW (bZ ahN (cH wM rfl T.jG bI (aq (aO (pv 0) rfl) aG)) (bH T.aaw) (cP _)) (aK (bB (bH T.Ua))) b7)
   (aL (ahH (hu1 hr) (aO (pv 0) rfl) (pv 3) (acg T.alw adi (hr.mono (by decide)) rfl T.anF T.Iu .nil dz (aq (fC kW (cH wM rfl T.jG bI (aq (aO (pv 0) rfl) aG)) bG) (aq (iG fP (pv 2) bG (λ_ _=>rfl)) (aq (cH cW rfl T.jG bI (aq (aO (pv 0) rfl) aG)) aG)))) rfl)
   (aK (bB (bH T.Bo))))))),?_⟩
  obtain ⟨kd,ekd⟩:=afx.mp hk;obtain ⟨kw,ka⟩:=ajn ekd;rw [bu,bu,jE,uv hn,ka] at ha2;obtain ⟨BV,hb⟩:=hB.bk;rw [NP] at q;dsimp only at q;rw [hn,hk,dF,FZ,decide_eq_true hrk,FZ,ekd] at q;walk_at "rd";refine ⟨_,cY.of ha2,_,fH (j:=0) rfl,_,_,_,hb,T.cN,T.fG,_,rfl,_,rfl,_,Et.k (k:=bW (tx (n.map sg))) hB.pl,?_⟩;rw [CP hB.ok hB.yE];cases hu:dM B n with
  |some i=>
   rw [hu,Option.isNone_some,Np] at q;have hi:i<B.places.length:=by
    obtain ⟨hp,_⟩:=mK.mp hu;exact hp
   have ei:L.ps[i]? =some (L.ps[i]'(by rw [hB.yE];exact hi)):=ak _;simp only [ZG,ei,vX,gG,↓reduceIte];exact q H (bh.refl H)
  |none=>
   rw [hu,Option.isNone_none,FZ] at q;simp only [Option.bind_none,Ot,jk,cD,↓reduceIte];refine ⟨_,_,_,hb,T.cN,T.fG,_,rfl,_,rfl,_,hB.pl,?_⟩;rw [hB.af2];by_cases h12:B.places.length<Vbmiam.PLACES
   ·rw [decide_eq_true h12,FZ,Pb] at q;have h12:B.places.length<12:=h12;dsimp only at q;rw [if_neg (by omega)];have hme:B.metals.length<=2:=hB.ok.me;refine ⟨_,_,_,hb,T.cN,T.fG,_,rfl,_,rfl,_,hB.pl,_,cY.of ha2,_,fH (j:=1) rfl,_,_,_,hb,T.cN,T.jt,_,rfl,_,rfl,_,.inl (cY.of hB.me),λx dx2 nx ndx nex=>?_⟩;rw [hB.af2,ao];have hsl:sizeLine=16777216:=sizeLine_eq;have s1:bh H (upd (upd H dx2 (.own x)) x (.ins A.fW dx2 [])):=λc o hc=>by
     rw [aF (fK hc nx),aF (fK hc ndx)];exact hc
    refine ⟨x,dx2,B.places.length+1,eF kd,B.metals.length,rfl,aD,by omega,λla H1 nla p1 l1 b1=>?_⟩;have nlx:la≠x:=λz=>by rw [z,aD] at nla;cases nla
    have aja:H la=none:=s1.free nla;have k1:∀c o,H c=some o->H1 c=some o:=λc o hc=>b1 c o (s1 c o hc) (fK hc nx);refine ⟨rfl,_,_,_,k1 _ _ hb,T.cN,T.fG,_,rfl,_,rfl,_,akd.k (k:=bW (tx (n.map sg))) (k1 _ _ hB.pl) (by rw [hB.af2];omega),?_⟩;have es1:n.map sg=n:=um (oA hn);have ev:m7 (eE B.places L.ps) (bW (tx (n.map sg)))=none:=by rw [CP hB.ok hB.yE,hu];rfl
    have ep:putK (eE B.places L.ps) (bW (tx (n.map sg))) (V.ref x)=eE (B.places++[{name:=n,kind:=kd,kg:=0,metals:=B.metals.map λ_=>0,opened:=false}]) (L.ps++[(x,la)]):=by
     rw [Xn _ ev,acb hB.yE,es1]
    rw [ep];have xpl:x≠L.pl:=λz=>by rw [z,hB.pl] at nx;cases nx
    have lpl:la≠L.pl:=λz=>by rw [z,hB.pl] at aja;cases aja
    have ez:bV (bx (B.metals.length+1) 0)=bV (0::B.metals.map λ_=>0):=by
     rw [fM];congr 2;exact (List.map_const' ..).symm
    rw [ez] at l1;have hB2:=(hB.aj3 (x:=x) (la:=la) (dx:=dx2) (p:={name:=n,kind:=kd,kg:=0,metals:=B.metals.map λ_=>0,opened:=false})
     (H2:=upd H1 L.pl (.dK (eE (B.places++[{name:=n,kind:=kd,kg:=0,metals:=B.metals.map λ_=>0,opened:=false}]) (L.ps++[(x,la)]))))
     (by rw [aF xpl];exact p1) (by rw [aF lpl];exact l1) nx aja (λc o hc hne=>by rw [aF hne];exact k1 c o hc) aD hn (af1 hu) h12 (by simp) (eX _)).more
    refine q _ ⟨⟨_,_,.non,hB2,rfl,?_,λy hy=>?_⟩,λy o hy hS hyr=>?_⟩
    ·rw [aF (dC hr2 hB.pl (by intro z;cases z))];exact k1 _ _ hr2
    ·rcases hy with z | z | z
     ·exact .inl z
     ·rw [z];exact .inr (.inl nx)
     ·rw [z];exact .inr (.inl aja)
    ·rw [aF (λz=>hS (by rw [z];exact hB.own.2.2.2.1))];exact k1 y o hy
   ·rw [decide_eq_false h12,Np] at q;have h12:¬B.places.length<12:=h12;rw [if_pos (by omega)];exact q H (bh.refl H)))
theorem bJ.ae6{N:Nat}{H:Hp}{b:Addr}{B:aC}{es:List Nat}{L:Lay}{S:Addr->Prop}(T:Txt P w K mg A)(h:bJ A N H b B es L S){a dx:Addr}{fs:List (Str×V)}(ha:H a=some (.ins A.fW dx fs)):
  b≠a/\L.us≠a/\L.me≠a/\L.pl≠a/\L.sc≠a/\L.re≠a/\(∀x∈L.ps,x.2≠a)/\(∀x∈L.rs,x≠a)/\∀ma la m,qI A H L ma la m->ma≠a/\la≠a:=(by apply aj:aa (by
 obtain ⟨BV,hb⟩:=h.bk;refine ⟨dC hb ha (by intro z;injection z with z1 _ _;exact T.Kz z1.symm),dC h.us ha (by intro z;cases z),dC h.me ha (by intro z;cases z),dC h.pl ha (by intro z;cases z),dC h.sc ha (by intro z;cases z),dC h.re ha (by intro z;cases z),λx hx=>?_,λx hx=>?_,λma la m q=>?_⟩
 ·obtain ⟨n,p,_,e2⟩:=h.wK (a:=x.1) (la:=x.2) hx;exact dC e2 ha (by intro z;cases z)
 ·obtain ⟨e,r,d,u,v,e1,_⟩:=h.RM hx;exact dC e1 ha (by intro z;injection z with z1 _ _;exact T.Jw z1.symm)
 ·obtain ⟨d,sa,ta,e1,_⟩:=q.ob;exact ⟨dC e1 ha (by intro z;injection z with z1 _ _;exact T.aar z1.symm),dC q.am ha (by intro z;cases z)⟩))
theorem ad7{l:List dw}{ps:List (Addr×Addr)}{i:Nat}{p p':dw}{a la Zy:Addr}(h1:l[i]? =some p)(h2:ps[i]? =some (a,la))(hn:p'.name=p.name):eE (l.set i p') (ps.set i (a,Zy))=eE l ps:=by
 unfold eE;apply rm;intro j;rw [yS,yS];by_cases hj:i=j
 ·subst hj;rw [fQ (aQ.mp h1).1,fQ (aQ.mp h2).1,h1,h2];simp only [hn]
 ·rw [fV hj,fV hj]
theorem aiT{l:List dw}{i:Nat}{p p':dw}(h1:l[i]? =some p)(hn:p'.name=p.name):(l.set i p').map (·.name)=l.map (·.name):=by
 apply rm;intro j;rw [aW,aW];by_cases hj:i=j
 ·subst hj;rw [fQ (aQ.mp h1).1,h1];simp only [vX,hn]
 ·rw [fV hj]
theorem tV{ps:List (Addr×Addr)}{i:Nat}{a la Zy:Addr}(h2:ps[i]? =some (a,la))(j:Nat):((ps.set i (a,Zy))[j]?).map (·.1)=(ps[j]?).map (·.1):=by
 by_cases hj:i=j
 ·subst hj;rw [fQ (aQ.mp h2).1,h2];rfl
 ·rw [fV hj]
theorem bJ.TV{N N':Nat}{H H2:Hp}{b a la Zy dx:Addr}{B:aC}{es:List Nat}{L:Lay}{S:Addr->Prop}{i:Nat}{p p':dw}(T:Txt P w K mg A)(h:bJ A N H b B es L S)(h1:B.places[i]? =some p)(h2:L.ps[i]? =some (a,la))(hn:p'.name=p.name)(hx:H2 a=some (.ins A.fW dx (uT (i+1) (eF p'.kind) p'.opened Zy)))(hla:H2 Zy=some (.lst (bV (p'.kg::p'.metals))))(fla:H Zy=none)(keep:∀c o,H c=some o->c≠a->H2 c=some o)(hm:p'.metals.length=B.metals.length)(hk:p'.kg<=eY*N')(hN:N<=N'):
  bJ A N' H2 b {B with places:=B.places.set i p'} es {L with ps:=L.ps.set i (a,Zy)} λc=>S c\/c=Zy:=(by apply aj:aa (by
 obtain ⟨dx0,ha0⟩:=(h.pat i p a la h1 h2).ob;obtain ⟨n1,n2,n3,n4,n5,n6,n7,n8,n9⟩:=h.ae6 T ha0;obtain ⟨BV,hb⟩:=h.bk;have hi:i<B.places.length:=(aQ.mp h1).1;exact
 {ok:={h.ok with
   ps:=by show (B.places.set i p').length<=12;rw [pX];exact h.ok.ps
   pn:=λy hy=>by
    rcases jN hy with q | q
    ·exact h.ok.pn y q
    ·rw [q,hn];exact h.ok.pn p (aM h1)
   pd:=by show ((B.places.set i p').map (·.name)).Nodup;rw [aiT h1 hn];exact h.ok.pd
   pm:=λy hy=>by
    rcases jN hy with q | q
    ·exact h.ok.pm y q
    ·rw [q];exact hm
   pk:=λy hy=>by
    rcases jN hy with q | q
    ·exact aY (h.ok.pk y q) (S6 _ hN)
    ·rw [q];exact hk
   mv:=λr hr m hm=>by
    have q:=h.ok.mv r hr m hm;show m.from_<(B.places.set i p').length/\m.to_<(B.places.set i p').length/\_;rw [pX];exact q}
  bk:=⟨BV,keep _ _ hb n1⟩
  us:=keep _ _ h.us n2
  me:=keep _ _ h.me n3
  pl:=by
   have e:eE (B.places.set i p') (L.ps.set i (a,Zy))=eE B.places L.ps:=ad7 h1 h2 hn;show H2 L.pl=some (.dK (eE (B.places.set i p') (L.ps.set i (a,Zy))));rw [e];exact keep _ _ h.pl n4
  sc:=keep _ _ h.sc n5
  re:=keep _ _ h.re n6
  yE:=by show (L.ps.set i (a,Zy)).length=(B.places.set i p').length;rw [pX,pX];exact h.yE
  Cr:=h.Cr
  esl:=h.esl
  pat:=λj y c l2 e1 e2=>by
   have e1:(B.places.set i p')[j]? =some y:=e1;have e2:(L.ps.set i (a,Zy))[j]? =some (c,l2):=e2;by_cases hj:i=j
   ·subst hj;rw [fQ hi] at e1;rw [fQ (aQ.mp h2).1] at e2;cases aB e1;cases aB e2;exact ⟨⟨dx,hx⟩,hla⟩
   ·rw [fV hj] at e1 e2;have nca:c≠a:=λz=>by
     have y1:(L.ps.map (·.1))[j]? =some a:=by rw [aW,e2];exact congrArg some z
     have y2:(L.ps.map (·.1))[i]? =some a:=by rw [aW,h2];rfl
     exact hj (alp h.Xw y2 y1)
    exact (h.pat j y c l2 e1 e2).keep (λo e=>keep _ _ e nca) (λo e=>keep _ _ e (n7 _ (aM e2)))
  rat:=λj r c e e1 e2 e3=>by
   obtain ⟨d,u,v,q1,q2,q3⟩:=h.rat j r c e e1 e2 e3;refine ⟨d,u,v,keep _ _ q1 (n8 c (aM e2)),?_,q3⟩;cases hm:r.move with
   |none=>rw [hm] at q2;exact q2
   |some m=>
    rw [hm] at q2;obtain ⟨ma,l2,ev,y1,y2,y3⟩:=q2;obtain ⟨z1,z2⟩:=n9 ma l2 m y1;obtain ⟨d2,sa,ta,x1,x2,x3⟩:=y1.ob;refine ⟨ma,l2,ev,⟨⟨d2,sa,ta,keep _ _ x1 z1,?_,?_⟩,keep _ _ y1.am z2,y1.ne⟩,.inl y2,.inl y3⟩
    ·show ((L.ps.set i (a,Zy))[m.from_]?).map (·.1)=_;rw [tV h2];exact x2
    ·show ((L.ps.set i (a,Zy))[m.to_]?).map (·.1)=_;rw [tV h2];exact x3
  Xw:=by
   have e:(L.ps.set i (a,Zy)).map (·.1)=L.ps.map (·.1):=by
    apply rm;intro j;rw [aW,aW];exact tV h2 j
   show ((L.ps.set i (a,Zy)).map (·.1)).Nodup;rw [e];exact h.Xw
  Zx:=h.Zx
  ne:=h.ne
  Xv:=λx hx=>by
   rcases jN hx with q | q
   ·exact h.Xv x q
   ·rw [q];exact ⟨λz=>(by have z:Zy=L.me:=z;rw [z,h.me] at fla;cases fla),λz=>(by have z:Zy=L.re:=z;rw [z,h.re] at fla;cases fla)⟩
  own:=by
   obtain ⟨o1,o2,o3,o4,o5,o6,o7,o8⟩:=h.own;refine ⟨.inl o1,.inl o2,.inl o3,.inl o4,.inl o5,.inl o6,λx hx=>?_,λx hx=>.inl (o8 x hx)⟩;rcases jN hx with q | q
   ·exact ⟨.inl (o7 x q).1,.inl (o7 x q).2⟩
   ·rw [q];exact ⟨.inl (o7 _ (aM h2)).1,.inr rfl⟩}))
noncomputable def ajj (xs:List Nat):Bool:=decide (eY<xs.headD 0) || xs.tail.any λx=>decide (j0<x)
inductive VD(K:az)(vs:List V)(H:Hp)(Q:VK)(E:XK):Prop
 |mk (a:Addr) (x:Nat) (xs:List Nat) (_:vs=[.ref a]) (_:cY K H a (bV (x::xs))) (_:xs.length<=100) (_:∀H',bh H H'->Q (.bl (ajj (x::xs))) H')
noncomputable def aop:V->V
 |.int z=>.bl (decide (1000000000000000000<z))
 |_=>.non
theorem Jt(T:Txt P w K mg A):fU P w K mg base mU 1 A.BL A.ph vo (VD K):=(by apply aj:aa (by
 refine T.pY.ok yx (λvs H Q E h=>?_) (λcdv A' outer s H vs Q E hr h=>?_)
 ·obtain ⟨a,x,xs,rfl,_⟩:=h;rfl
 ·obtain ⟨a,x,xs,rfl,hs,hl,k⟩:=h;refine ⟨_,(aK (bB (ale (nZ O2 (iG fP (pv 0) bG (λ_ _=>rfl)) (bH T.wJ) (cP _)) (acf (cH (amj rfl) rfl T.aoe boot_any (aq (yU rfl yx.nd (uU (jF lF (pv 0) (gr bG) pM)) (iJ (N:=Mj) (sc:=aX uR) (own:=[("part",1)]) (by decide+kernel)) (λ_ _ _ _ _=>(eZ (i:=1) yx.nd rfl (dZ rfl) (hf:=gF rfl))) (λ_ _ _ _ _=>kJ) (λ_ _ _ _ _=>(nZ O2 (pv 1) (bH T.RB) (cP _)))) aG)))))),?_⟩;walk_at "rd";refine ⟨_,hs,_,fH (j:=0) rfl,?_⟩;refine ⟨_,rfl,?_⟩;unfold ajj at k;by_cases h1:eY<x
  ·have e:decide (eY<(x::xs).headD 0)=true:=decide_eq_true h1;rw [e,Bool.true_or] at k;have h1:1000000000000<x:=h1;rw [if_pos (by omega)];exact k H (bh.refl H)
  ·have e:decide (eY<(x::xs).headD 0)=false:=decide_eq_false h1;rw [e,Bool.false_or] at k;have h1:¬1000000000000<x:=h1;rw [if_neg (by omega)];refine ⟨1,rfl,a,_,rfl,hs,λp hp=>?_⟩;have e1:ym (bV (x::xs)) (some 1) none=bV xs:=Uj (bV (x::xs)) 1;rw [e1];have s1:bh H (upd H p (.lst (bV xs))):=bh.new hp;have hd:upd H p (.lst (bV xs)) p=some (.lst (bV xs)):=aD;generalize upd H p (.lst (bV xs))=H1 at s1 hd;refine ⟨p,rfl,⟨_,cY.of hd⟩,FJ aop (cY.of hd) (by rw [ao];exact aY hl (by decide)) ?_ ?_⟩
   ·intro i y H2 R hy s2 h;obtain ⟨c,hc,rfl⟩:=Gi hy;walk_at "rd";exact h H2 (bh.refl H2)
   ·intro D H2 hD s2 h;have e2:(bV xs).map aop=(xs.map λx=>decide (j0<x)).map V.bl:=by
     rw [cG,cG];apply gm;intro y _;show V.bl (decide (1000000000000000000<(y:Int)))=V.bl (decide (1000000000000000000<y));congr 1;exact decide_eq_decide.mpr (by omega)
    rw [e2] at h;refine ⟨D,rfl,_,cY.of h,?_⟩;rw [Wv];exact k H2 (s1.trans s2)))
theorem abq{ms:List (List Nat)}(h:ms.all aN=true):ms.map Oj=bV (ms.map au):=by
 have e:bV (ms.map au)=ms.map λm=>V.int (au m:Int):=cG ..;rw [e];apply gm;intro m hm;exact yo (dH.mp h m hm)
theorem Qe{B:aC}{n:List Nat}{i:Nat}(h:dM B n=some i):∃p,B.places[i]? =some p/\jV B i=p/\p.name=n:=by
 obtain ⟨hi,e,_⟩:=mK.mp h;refine ⟨B.places[i],ak hi,?_,beq_iff_eq.mp e⟩;unfold jV;rw [cC,ak hi];rfl
theorem Ht{α:Type}{l:List α}{i:Nat}{p:α}(f:α->α)(h:l[i]? =some p):l.modify i f=l.set i (f p):=by
 apply rm;intro j;rw [akH];by_cases hj:i=j
 ·subst hj;rw [fQ (aQ.mp h).1,h];simp
 ·rw [fV hj];simp [hj]
theorem Rw(k:eU)(ws:List Str)(ks:List eU)(h:ws=ks.map eF):inV (.str (eF k)) (ws.map V.str)=ks.contains k:=by
 rw [Yv,h,iy,decide_eq_true_eq,akk,cF];constructor
 ·rintro ⟨j,hj,e⟩;have:j=k:=by
   cases j<;>cases k<;>first | rfl | exact absurd e (by decide+kernel)
  rw [<-this];exact hj
 ·intro q;exact ⟨k,q,rfl⟩
theorem Wd(xs ys:List Nat):wj xs ys=bM (λx y=>x+y) xs ys:=by
 unfold wj;rw [S7,List.map_zipWith]
theorem ahU(xs ys:List Nat):Ah xs ys=bM (λx y=>x - y) xs ys:=by
 unfold Ah;rw [S7,List.map_zipWith]
def ab7(B:aC)(u:dG)(us:List (List Nat)):Prop:=∃n k ms,us=n::k::ms/\bj n=true/\aN k=true/\ms.all aN=true/\ms.length=B.metals.length/\2<=u.rank
theorem aan(T:Txt P w K mg A):fU P w K mg base mU 2 A.zX A.rZ zN (Jp A "open" ab7):=(by apply aj:aa (by
 have Jd:=O5 (base:=base) T;have Ck:=Jt (base:=base) T;refine T.zq.ok DN (λvs H Q E h=>?_) (λcdv A' outer s H vs Q E hr h=>?_)
 ·obtain ⟨b,r,a,N,B,es,L,S,dx,e,mo,u,us,rfl,_⟩:=h;rfl
 ·obtain ⟨b,r,a,N,B,es,L,S,dx,e,mo,u,us,rfl,hB,hN,hN2,hr1,hr2,ha1,ha2,_,_,⟨n,k,ms,rfl,hn,hk,hms,hml,hrk⟩,q⟩:=h;refine ⟨_,(bw (lL 3 DN.nd (jF lF (pv 2) (gr bG) pM))),?_⟩;rw [bu,bu,uv hn,yo hk,abq hms] at ha2;obtain ⟨BV,hb⟩:=hB.bk;rw [R0] at q;dsimp only at q;rw [hn,hk,hms,decide_eq_true hml,dF,dF,dF,FZ,decide_eq_true hrk,FZ] at q;have hme:B.metals.length<=2:=hB.ok.me;walk_at "rd";refine ⟨_,cY.of ha2,λc hc=>?_⟩;have e1:ym (V.str (tx (n.map sg))::V.int (au k:Int)::bV (ms.map au)) (some 1) none=bV (au k::ms.map au):=Uj _ 1;rw [e1];have s1:bh H (upd H c (.lst (bV (au k::ms.map au)))):=bh.new hc;have hcl:upd H c (.lst (bV (au k::ms.map au))) c=some (.lst (bV (au k::ms.map au))):=aD;generalize upd H c (.lst (bV (au k::ms.map au)))=H1 at s1 hcl;have hB1:=hB.same s1;refine cz (bw (lL 4 DN.nd (Fp (hu1 hr) (aO (pv 0) rfl) (iG fP (pv 2) bG (λ_ _=>rfl)) ⟨rfl,rfl,rfl,rfl⟩))) ?_;walk_at "rd";refine ⟨_,_,_,s1 _ _ hb,T.cN,T.fG,_,rfl,_,rfl,.inl ⟨_,.inl hB1.pl⟩,_,cY.of (s1 _ _ ha2),_,fH (j:=0) rfl,_,Et.k (k:=bW (tx (n.map sg))) hB1.pl,?_⟩;rw [CP hB.ok hB.yE];cases hu:dM B n with
  |none=>
   rw [hu,jk,Np] at q;simp only [Option.bind_none,Ot,JV];refine cz (bw (dW (bZ yG (pv 4) nY (cP _)) (aK (bB (bH T.Hv))) b7)) ?_;walk_at "rd";exact q H1 s1
  |some i=>
   rw [hu,gG,FZ,jX] at q;obtain ⟨p,hp,hat,hpn⟩:=Qe hu;rw [hat] at q;have hi:i<L.ps.length:=by rw [hB.yE];exact (aQ.mp hp).1
   obtain ⟨⟨pa,la⟩,hpa⟩:∃y,L.ps[i]? =some y:=⟨_,ak hi⟩;have apq:=hB1.pat i p pa la hp hpa;obtain ⟨dxp,hpo⟩:=apq.ob;simp only [ZG,hpa,vX,jX];refine cz (bw (dW (bZ yG (pv 4) nY (cP _)) (aK (bB (bH T.Hv))) b7)) ?_;walk_at "rd";refine cz (bw (dW (lN (aO (pv 4) rfl)) (aK (bB (bH T.vB))) b7)) ?_;walk_at "rd";refine ⟨_,_,_,hpo,T.d7,T.tH,_,rfl,p.opened,rfl,?_⟩;cases ho:p.opened with
   |true=>
    rw [ho,gV,Np] at q;simp only [↓reduceIte];exact q H1 s1
   |false=>
    rw [ho,gn,FZ] at q;rw [ho] at hpo;simp only [cD,↓reduceIte];refine cz (bw (dW (bZ vz (aO (pv 4) rfl) (bH T.Ym) rfl) (aK (bB (bH T.zV))) b7)) ?_;walk_at "rd";refine ⟨_,_,_,hpo,T.d7,T.iH,_,rfl,_,.inr T.WY.sq,rfl,rfl,_,(j8 _).symm,?_⟩;have ek:inV (.str (eF p.kind)) [V.str "ground",V.str "pile"]=(p.kind== .ground || p.kind== .pile):=by
     have:=Rw p.kind ["ground","pile"] [.ground,.pile] rfl;rw [show ([V.str "ground",V.str "pile"]:List V)=(["ground","pile"]:List Str).map V.str from rfl,this];cases p.kind<;>rfl
    rw [ek];cases hkd:(p.kind==eU.ground || p.kind==ZD) with
    |false=>
     rw [hkd,Np] at q;simp only [gn,↓reduceIte];exact q H1 s1
    |true=>
     rw [hkd,FZ] at q;simp only [gV,cD,↓reduceIte];refine cz (bw (dW (lN (cJ Ck (hr.mono (by decide)) rfl T.K7 T.pY.kp T.vQ .nil dz (aq (pv 3) aG))) (aK (bB (bH T.kh))) b7)) ?_;walk_at "rd";refine ⟨c,_,_,rfl,cY.of hcl,by rw [ao];omega,λH2 s2=>?_⟩;refine ⟨_,rfl,?_⟩;have el:ajj (au k::ms.map au)= !(decide (au k<=eY)&&ms.all λm=>decide (au m<=j0)):=by
      unfold ajj;rw [aiu];congr 1
      ·show decide (eY<au k)= !decide (au k<=eY);by_cases z:au k<=eY
       ·rw [decide_eq_true z,decide_eq_false (by omega)];rfl
       ·rw [decide_eq_false z,decide_eq_true (by omega)];rfl
      ·show (ms.map au).any _=_;rw [Wv,JW];congr 1;funext m;show decide (j0<au m)= !decide (au m<=j0);by_cases z:au m<=j0
       ·rw [decide_eq_true z,decide_eq_false (by omega)];rfl
       ·rw [decide_eq_false z,decide_eq_true (by omega)];rfl
     rw [el];cases hlim:(decide (au k<=eY)&&ms.all λm=>decide (au m<=j0)) with
     |false=>
      rw [hlim,Np] at q;simp only [gn,↓reduceIte];exact q H2 (s1.trans s2)
     |true=>
      rw [hlim,FZ,Pb] at q;dsimp only at q;simp only [gV,cD,↓reduceIte];have s3:=s1.trans s2;refine cz (bw (gB (pv 4) Js rfl)) ?_;walk_at "rd";refine ⟨_,_,_,s2 _ _ hpo,T.d7,T.tH,of_decide_eq_true rfl,?_⟩;have ncp:c≠pa:=dC hcl hpo (by intro z;cases z);have nlp:la≠pa:=dC apq.am hpo (by intro z;cases z);have k3:∀x o,H x=some o->x≠pa->upd H2 pa (.ins A.fW dxp (uT (i+1) (eF p.kind) true la)) x=some o:=λx o hx hne=>by
       rw [aF hne];exact s3 x o hx
      have h3:upd H2 pa (.ins A.fW dxp (uT (i+1) (eF p.kind) true la)) pa=some (.ins A.fW dxp (uT (i+1) (eF p.kind) true la)):=aD;have h4:upd H2 pa (.ins A.fW dxp (uT (i+1) (eF p.kind) true la)) la=some (.lst (bV (p.kg::p.metals))):=by rw [aF nlp];exact s2 _ _ apq.am
      have h5:upd H2 pa (.ins A.fW dxp (uT (i+1) (eF p.kind) true la)) c=some (.lst (bV (au k::ms.map au))):=by rw [aF ncp];exact s2 _ _ hcl
      refine cz (aL (jn (Hj (pv 4) T.d7 T.O7 Jd (hr.mono (by decide)) T.Aa .nil dz (aq (pv 3) aG)))
   (aK (bB (bH T.Bo)))) ?_;walk_at "rd"
      refine ⟨_,_,h3,rfl,?_⟩;have hpm:=hB.ok.pm p (aM hp);have hpk:=hB.ok.pk p (aM hp);refine ⟨pa,dxp,c,i+1,eF p.kind,true,la,p.kg::p.metals,au k::ms.map au,rfl,h3,h4,h5,by simp only [aH];omega,trivial,λl2 H4 n4 p4 l4 b4=>?_⟩;have nl2:l2≠pa:=λz=>by rw [z,aD] at n4;cases n4
      have f2:H2 l2=none:=by
       have z:upd H2 pa (.ins A.fW dxp (uT (i+1) (eF p.kind) true la)) l2=none:=n4;rw [aF nl2] at z;exact z
      have f0:H l2=none:=s3.free f2;have k4:∀x o,H x=some o->x≠pa->H4 x=some o:=λx o hx hne=>b4 x o (k3 x o hx hne) hne;rw [Ht _ hp] at q;have hlk:au k<=eY:=of_decide_eq_true (bf _ _▸hlim).1;have em:bM (λx y=>x+y) (p.kg::p.metals) (au k::ms.map au)=(p.kg+au k)::wj p.metals (ms.map au):=by
       rw [Wd];rfl
      rw [em] at l4;have hB2:=hB.TV (N':=N+1) T (p':={p with kg:=p.kg+au k,metals:=wj p.metals (ms.map au),opened:=true}) hp hpa rfl p4 l4 f0 k4
       (by rw [Wd,iT,ao];omega) (by show p.kg+au k<=eY*(N+1);rw [akC,akB];omega) (by omega)
      have nrp:r≠pa:=λz=>hr1 (by rw [z];exact (hB.own.2.2.2.2.2.2.1 _ (aM hpa)).1);refine q H4 ⟨⟨_,_,.non,hB2,rfl,k4 _ _ hr2 nrp,λx hx=>?_⟩,λx o hx hS hxr=>k4 x o hx λz=>hS (by rw [z];exact (hB.own.2.2.2.2.2.2.1 _ (aM hpa)).1)⟩;rcases hx with z | z
      ·exact .inl z
      ·rw [z];exact .inr (.inl f0)))
theorem alz(p:dw)(kg:Nat)(ms:List Nat):alA (p.kg::p.metals) (kg::ms)= !Vbmiam.has p kg ms:=(by apply aj:aa (by
 unfold alA yV;rw [aiu];show (decide (p.kg<kg) || (bM (λx y=>decide (x<y)) p.metals ms).any id)=_;congr 1
 ·by_cases z:kg<=p.kg
  ·rw [decide_eq_true z,decide_eq_false (by omega)];rfl
  ·rw [decide_eq_false z,decide_eq_true (by omega)];rfl
 ·rw [JW,S7];generalize p.metals=xs
  induction xs generalizing ms with
  |nil=>simp
  |cons x xs ih=>
   cases ms with
   |nil=>simp
   |cons y ys=>
    show (decide (x<y) || (bM (λx y=>decide (x<y)) xs ys).any id)=((!decide (y<=x)) || (bM iY xs ys).any _);rw [ih ys];congr 1;by_cases z:y<=x
    ·rw [decide_eq_true z,decide_eq_false (by omega)];rfl
    ·rw [decide_eq_false z,decide_eq_true (by omega)];rfl))
theorem anx{p:dw}{kg:Nat}{ms:List Nat}(h:yV p kg ms=true):∀(i x y:Nat),(p.kg::p.metals)[i]? =some x->(kg::ms)[i]? =some y->y<=x:=(by apply aj:aa (by
 unfold yV at h;rw [bf,decide_eq_true_eq,dH] at h;intro i x y hx hy;cases i with
 |zero=>
  cases aB hx;cases aB hy;exact h.1
 |succ i=>
  have hx:p.metals[i]? =some x:=hx;have hy:ms[i]? =some y:=hy;have hz:(p.metals.zip ms)[i]? =some (x,y):=by rw [Gn];exact ⟨hx,hy⟩
  exact of_decide_eq_true (h.2 _ (aM hz))))
theorem bJ.grow{N:Nat}{H:Hp}{b:Addr}{B:aC}{es:List Nat}{L:Lay}{S S':Addr->Prop}(h:bJ A N H b B es L S)(hS:∀c,S c->S' c):bJ A N H b B es L S':=
 {ok:=h.ok,bk:=h.bk,us:=h.us,me:=h.me,pl:=h.pl,sc:=h.sc,re:=h.re,yE:=h.yE,Cr:=h.Cr,esl:=h.esl,pat:=h.pat
  rat:=λi r a e e1 e2 e3=>(h.rat i r a e e1 e2 e3).keep (h.own.2.2.2.2.2.2.2 _ (aM e2)) (λ_ _ _ z=>z) hS
  Xw:=h.Xw,Zx:=h.Zx,ne:=h.ne,Xv:=h.Xv
  own:=let ⟨o1,o2,o3,o4,o5,o6,o7,o8⟩:=h.own;⟨hS _ o1,hS _ o2,hS _ o3,hS _ o4,hS _ o5,hS _ o6,λa ha=>⟨hS _ (o7 a ha).1,hS _ (o7 a ha).2⟩,λa ha=>hS _ (o8 a ha)⟩}
structure ag6(A:uw)(N:Nat)(H:Hp)(b:Addr)(es:List Nat)(L:Lay)(S:Addr->Prop)(r a dx:Addr)(e mo:Nat)(un:Str)(B':aC)(mv:Option bK)(H':Hp):Prop where
 ex:∃L' S' v,bJ A (N+1) H' b B' es L' S'/\V5 A H' L' S' v mv/\H' r=some (.ins A.cX dx (nW e mo un 0 false v))/\(∀x,S' x->S x\/H x=none\/x=a)/\L'.rs=L.rs
 fr:∀x o,H x=some o->¬S x->x≠r->H' x=some o
theorem ag6.after{N:Nat}{H H':Hp}{b r a dx:Addr}{es:List Nat}{L:Lay}{S:Addr->Prop}{e mo:Nat}{un:Str}{B':aC}{mv:Option bK}(h:ag6 A N H b es L S r a dx e mo un B' mv H'):After A N H b es S r a dx e mo un B' mv H':=
 ⟨let ⟨L',S',v,h1,h2,h3,h4,_⟩:=h.ex;⟨L',S',v,h1,h2,h3,h4⟩,h.fr⟩
inductive akZ(A:uw)(vs:List V)(H:Hp)(Q:VK)(E:XK):Prop
 |mk (r sa ta am b:Addr) (N:Nat) (B:aC) (es:List Nat) (L:Lay) (S:Addr->Prop) (dx:Addr) (e mo:Nat) (un:Str) (i j:Nat) (p p2:dw) (la la2:Addr) (kg:Nat) (ms:List Nat) (_:vs=[.ref r,.ref sa,.ref ta,.ref am]) (_:bJ A N H b B es L S) (_:¬S r) (_:H r=some (.ins A.cX dx (nW e mo un 0 false .non))) (_:i≠j) (_:B.places[i]? =some p) (_:L.ps[i]? =some (sa,la)) (_:B.places[j]? =some p2) (_:L.ps[j]? =some (ta,la2)) (_:H am=some (.lst (bV (kg::ms)))) (_:am≠L.me) (_:am≠L.re) (_:ms.length=B.metals.length) (_:kg<=eY) (_:(yV p kg ms=false->∀H',bh H H'->Q (.int 8) H')) (_:(yV p kg ms=true->∀H',ag6 A N H b es L S r am dx e mo un (Dt B {from_:=i,to_:=j,kg:=kg,metals:=ms}) (some {from_:=i,to_:=j,kg:=kg,metals:=ms}) H'->Q (.int 0) H'))
theorem XS(T:Txt P w K mg A):fU P w K mg base mU 3 A.acO A.La Wc (akZ A):=(by apply aj:aa (by
 have Jd:=O5 (base:=base) T;have adh:=aao (base:=base) T;have UG:=Rr (base:=base) T;have afh:=acw (base:=base) T;refine T.MJ.ok ak6 (λvs H Q E h=>?_) (λcdv A' outer s H vs Q E hr h=>?_)
 ·obtain ⟨r,sa,ta,am,b,N,B,es,L,S,dx,e,mo,un,i,j,p,p2,la,la2,kg,ms,rfl,_⟩:=h;rfl
 ·obtain ⟨r,sa,ta,am,b,N,B,es,L,S,dx,e,mo,un,i,j,p,p2,la,la2,kg,ms,rfl,hB,hr1,hr2,hij,hp,hpa,hp2,Yw,ham,auk,auj,hml,hkg,q8,q0⟩:=h;refine ⟨_,(aL (dW (lN (Hj (pv 1) T.d7 T.Ru UG (hr.mono (by decide)) T.wQ .nil dz (aq (pv 3) aG))) (aK (bB (bH T.Ry))) b7)
   (aL (jn (Hj (pv 1) T.d7 T.aat adh (hr.mono (by decide)) T.Ir .nil dz (aq (pv 3) aG)))
   (aL (jn (Hj (pv 2) T.d7 T.O7 Jd (hr.mono (by decide)) T.Aa .nil dz (aq (pv 3) aG)))
   (aL (gB (pv 0) (acg T.ang afh (hr.mono (by decide)) rfl T.apy T.LC .nil dz (aq (pv 1) (aq (pv 2) (aq (pv 3) aG)))) rfl)
   (aK (bB (bH T.Bo))))))),?_⟩
  have hme:B.metals.length<=2:=hB.ok.me;have hpm:=hB.ok.pm p (aM hp);have awI:=hB.ok.pm p2 (aM hp2);have hP:=hB.pat i p sa la hp hpa;have hP2:=hB.pat j p2 ta la2 hp2 Yw;obtain ⟨dxs,hso⟩:=hP.ob;obtain ⟨dxt,hto⟩:=hP2.ob;walk_at "rd";refine ⟨_,_,hso,rfl,?_⟩;refine ⟨sa,dxs,am,i+1,eF p.kind,p.opened,la,p.kg::p.metals,kg::ms,rfl,hso,hP.am,ham,by simp only [aH];omega,λH1 s1=>?_⟩;refine ⟨_,rfl,?_⟩;rw [alz];cases hh:yV p kg ms with
  |false=>
   simp only [gn,↓reduceIte];exact q8 hh H1 s1
  |true=>
   simp only [gV,cD,↓reduceIte];have aqQ:=hB.own.2.2.2.2.2.2.1;have Ssa:=(aqQ _ (aM hpa)).1;have Sta:=(aqQ _ (aM Yw)).1;have nst:ta≠sa:=λz=>by
    have y1:(L.ps.map (·.1))[j]? =some sa:=by rw [aW,Yw];exact congrArg some z
    have y2:(L.ps.map (·.1))[i]? =some sa:=by rw [aW,hpa];rfl
    exact hij (alp hB.Xw y2 y1)
   refine ⟨_,_,s1 _ _ hso,rfl,sa,dxs,am,i+1,eF p.kind,p.opened,la,p.kg::p.metals,kg::ms,rfl,s1 _ _ hso,s1 _ _ hP.am,s1 _ _ ham,by simp only [aH];omega,anx hh,λl1 H2 n1 p1 a1 b1=>?_⟩;have f1:H l1=none:=s1.free n1;have k2:∀c o,H c=some o->c≠sa->H2 c=some o:=λc o hc hne=>b1 c o (s1 c o hc) hne;have el:bM (λx y=>x - y) (p.kg::p.metals) (kg::ms)=(p.kg - kg)::Ah p.metals ms:=by rw [ahU];rfl
   rw [el] at a1;have hpk:=hB.ok.pk p (aM hp);have awK:=hB.ok.pk p2 (aM hp2);have hB1:=hB.TV (N':=N+1) T (p':={p with kg:=p.kg - kg,metals:=Ah p.metals ms}) hp hpa rfl p1 a1 f1 k2
    (by show (Ah p.metals ms).length=_;rw [ahU,iT];omega) (by show p.kg - kg<=eY*(N+1);rw [akC,akB];omega) (by omega)
   have aja:la2≠sa:=dC hP2.am hso (by intro z;cases z);have nam:am≠sa:=dC ham hso (by intro z;cases z);have atB:am≠ta:=dC ham hto (by intro z;cases z);have ara:=k2 _ _ hto nst;refine ⟨_,_,ara,rfl,ta,dxt,am,j+1,eF p2.kind,p2.opened,la2,p2.kg::p2.metals,kg::ms,rfl,ara,k2 _ _ hP2.am aja,k2 _ _ ham nam,by simp only [aH];omega,trivial,λl2 H3 n2 p3 a3 b3=>?_⟩;have em:bM (λx y=>x+y) (p2.kg::p2.metals) (kg::ms)=(p2.kg+kg)::wj p2.metals ms:=by rw [Wd];rfl
   rw [em] at a3;have hp2':(B.places.set i {p with kg:=p.kg - kg,metals:=Ah p.metals ms})[j]? =some p2:=by rw [fV hij];exact hp2
   have alN:(L.ps.set i (sa,l1))[j]? =some (ta,la2):=by rw [fV hij];exact Yw
   have hB3:=hB1.TV (N':=N+1) T (p:=p2) (p':={p2 with kg:=p2.kg+kg,metals:=wj p2.metals ms}) hp2' alN rfl p3 a3 n2 b3
    (by show (wj p2.metals ms).length=B.metals.length;rw [Wd,iT];omega) (by show p2.kg+kg<=eY*(N+1);rw [akC,akB];omega) (aU _)
   have eB:Dt B {from_:=i,to_:=j,kg:=kg,metals:=ms}={B with places:=(B.places.set i {p with kg:=p.kg - kg,metals:=Ah p.metals ms}).set j {p2 with kg:=p2.kg+kg,metals:=wj p2.metals ms}}:=by
    unfold Dt;dsimp only;rw [Ht _ hp,Ht _ hp2']
   intro x dx2 nx ndx nex;refine ⟨x,dx2,sa,ta,am,rfl,aD,λH4 p4 b4=>⟨rfl,?_⟩⟩;have k4:∀c o,H3 c=some o->H4 c=some o:=λc o hc=>b4 c o (by rw [aF (fK hc nx),aF (fK hc ndx)];exact hc) (fK hc nx);have k3:∀c o,H c=some o->c≠sa->c≠ta->H3 c=some o:=λc o hc h1 h2=>b3 c o (k2 c o hc h1) h2;have nrs:r≠sa:=λz=>hr1 (by rw [z];exact Ssa);have nrt:r≠ta:=λz=>hr1 (by rw [z];exact Sta);have hr4:=k4 _ _ (k3 _ _ hr2 nrs nrt);have nrx:x≠r:=dC p4 hr4 (by intro z;injection z with z1 _ _;exact T.Bk z1);have f2:H l2=none:=by
    cases e2:H l2 with
    |none=>rfl
    |some o=>
     have y1:l2≠sa:=λz=>by rw [z,p1] at n2;cases n2
     rw [k2 _ _ e2 y1] at n2;cases n2
   have fx:H x=none:=by
    cases e2:H x with
    |none=>rfl
    |some o=>
     by_cases y1:x=sa
     ·rw [y1,b3 _ _ p1 (cO nst)] at nx;cases nx
     ·by_cases y2:x=ta
      ·rw [y2,p3] at nx;cases nx
      ·rw [k3 _ _ e2 y1 y2] at nx;cases nx
   refine ⟨_,_,_,hr4,T.dg,T.d9,of_decide_eq_true rfl,q0 hh _ ?_⟩;rw [eB];have nSr:¬((S r\/r=l1)\/r=l2):=by
    rintro ((z | z) | z)
    ·exact hr1 z
    ·rw [z,f1] at hr2;cases hr2
    ·rw [z,f2] at hr2;cases hr2
   have hB5:=(hB3.keep (H':=upd H4 r (.ins A.cX dx (nW e mo un 0 false (.ref x)))) λc o hS hc=>by
    rw [aF (λz=>nSr (by rw [<-z];exact hS))];exact k4 c o hc).grow (S':=λc=>((S c\/c=l1)\/c=l2)\/c=x\/c=am) λc hc=>.inl hc
   have aui:=k4 _ _ (k3 _ _ ham nam atB);have atD:am≠r:=dC ham hr2 (by intro z;cases z);refine ⟨⟨_,_,.ref x,hB5,⟨x,am,rfl,⟨⟨dx2,sa,ta,?_,?_,?_⟩,?_,auk,auj⟩,.inr (.inl rfl),.inr (.inr rfl)⟩,aD,λy hy=>?_,rfl⟩,λy o hy hS hyr=>?_⟩
   ·rw [aF nrx];exact p4
   ·show (((L.ps.set i (sa,l1)).set j (ta,l2))[i]?).map (·.1)=some sa;rw [tV alN,tV hpa,hpa];rfl
   ·show (((L.ps.set i (sa,l1)).set j (ta,l2))[j]?).map (·.1)=some ta;rw [tV alN,tV hpa,Yw];rfl
   ·rw [aF atD];exact aui
   ·rcases hy with ((z | z) | z) | z | z
    ·exact .inl z
    ·rw [z];exact .inr (.inl f1)
    ·rw [z];exact .inr (.inl f2)
    ·rw [z];exact .inr (.inl fx)
    ·exact .inr (.inr z)
   ·rw [aF hyr];exact k4 _ _ (k3 _ _ hy (λz=>hS (by rw [z];exact Ssa)) λz=>hS (by rw [z];exact Sta))))
theorem bJ.ajB{N:Nat}{H:Hp}{b:Addr}{B:aC}{es:List Nat}{L:Lay}{S:Addr->Prop}(h:bJ A N H b B es L S)(n:List Nat):
  (dM B n=none/\(m7 (eE B.places L.ps) (bW (tx (n.map sg)))).getD .non= .non)\/
  ∃i p a la,dM B n=some i/\B.places[i]? =some p/\jV B i=p/\L.ps[i]? =some (a,la)/\(m7 (eE B.places L.ps) (bW (tx (n.map sg)))).getD .non= .ref a:=(by apply aj:aa (by
 rw [CP h.ok h.yE];cases hu:dM B n with
 |none=>exact .inl ⟨rfl,rfl⟩
 |some i=>
  obtain ⟨p,hp,hat,_⟩:=Qe hu;have hi:i<L.ps.length:=by rw [h.yE];exact (aQ.mp hp).1
  obtain ⟨⟨pa,la⟩,hpa⟩:∃y,L.ps[i]? =some y:=⟨_,ak hi⟩;exact .inr ⟨i,p,pa,la,rfl,hp,hat,hpa,by rw [ZG,hpa];rfl⟩))
theorem aiS{p:dw}{v:Nat}(h:v<=p.kg):yV p v (lR p v)=true:=by
 unfold yV;rw [decide_eq_true h,dJ,dH];intro x hx;obtain ⟨i,hi⟩:=QV hx;obtain ⟨h1,h2⟩:=Gn.mp hi;unfold lR at h2;rw [aW,h1] at h2;have h2:=aB h2;apply decide_eq_true;rw [<-h2];split
 ·exact eX _
 ·rename_i hk;exact Nat.div_le_of_le_mul (by rw [air];exact QS _ h)
noncomputable def al6 (v kg:Nat):V->V
 |.int z=>.int (z*(v:Int)/(kg:Int))
 |_=>.non
theorem aiR{p:dw}{v:Nat}(h:p.kg≠0):(bV p.metals).map (al6 v p.kg)=bV (lR p v):=by
 unfold lR;have e:bV (p.metals.map λm=>if p.kg=0 then 0 else m*v/p.kg)=p.metals.map λm=>V.int ((if p.kg=0 then 0 else m*v/p.kg:Nat):Int):=cG ..;rw [e,cG];apply gm;intro m _;show V.int ((m:Int)*(v:Int)/(p.kg:Int))=V.int (((if p.kg=0 then 0 else m*v/p.kg:Nat)):Int);rw [if_neg h];congr 1
theorem After.back{N:Nat}{H H4 H5:Hp}{b r am a dx:Addr}{es:List Nat}{S:Addr->Prop}{e mo:Nat}{un:Str}{B':aC}{mv:Option bK}(s:bh H H4)(hf:H am=none)(h:After A N H4 b es S r am dx e mo un B' mv H5):After A N H b es S r a dx e mo un B' mv H5:=by
 obtain ⟨⟨L',S',v,h1,h2,h3,h4⟩,h5⟩:=h;refine ⟨⟨L',S',v,h1,h2,h3,λx hx=>?_⟩,λx o hx hS hr=>h5 x o (s x o hx) hS hr⟩;rcases h4 x hx with z | z | z
 ·exact .inl z
 ·exact .inr (.inl (s.free z))
 ·rw [z];exact .inr (.inl hf)
def ab9(B:aC)(u:dG)(us:List (List Nat)):Prop:=∃f t k,us=[f,t,k]/\bj f=true/\bj t=true/\aN k=true
theorem ao6{N kg:Nat}(h:kg<=eY*N)(hN:N<=10001):((kg:Int)).natAbs.log2<9000:=by
 rw [Int.natAbs_natCast];by_cases h0:kg=0
 ·subst h0;decide
 ·rw [Nat.log2_lt h0];have h1:kg<=1000000000000*10001:=aY h (S6 1000000000000 hN);exact Vs h1 (cM (by decide:1000000000000*10001<2^60) (Aj (by decide) (by decide)))
theorem aga(T:Txt P w K mg A):fU P w K mg base mU 4 A.Nv A.Bv Ng (Jp A "move" ab9):=(by apply aj:aa (by
 have SJ:=XS (base:=base) T;refine T.Mz.ok tX (λvs H Q E h=>?_) (λcdv A' outer s H vs Q E hr h=>?_)
 ·obtain ⟨b,r,a,N,B,es,L,S,dx,e,mo,u,us,rfl,_⟩:=h;rfl
 ·obtain ⟨b,r,a,N,B,es,L,S,dx,e,mo,u,us,rfl,hB,hN,hN2,hr1,hr2,ha1,ha2,_,_,⟨f,t,k,rfl,hf,ht,hk⟩,q⟩:=h;refine ⟨_,(bw (lL 3 tX.nd (Fp (hu1 hr) (aO (pv 0) rfl) (iG fP (pv 2) bG (λ_ _=>rfl)) ⟨rfl,rfl,rfl,rfl⟩))),?_⟩;rw [bu,bu,bu,jE,uv hf,uv ht,yo hk] at ha2;obtain ⟨BV,hb⟩:=hB.bk;rw [R1] at q;dsimp only at q;rw [hf,ht,hk,dF,dF,FZ] at q;have hme:B.metals.length<=2:=hB.ok.me;walk_at "rd";refine ⟨_,_,_,hb,T.cN,T.fG,_,rfl,_,rfl,.inl ⟨_,.inl hB.pl⟩,_,cY.of ha2,_,fH (j:=0) rfl,_,Et.k (k:=bW (tx (f.map sg))) hB.pl,?_⟩;refine cz (bw (lL 4 tX.nd (Fp (hu1 hr) (aO (pv 0) rfl) (iG fP (pv 2) bG (λ_ _=>rfl)) ⟨rfl,rfl,rfl,rfl⟩))) ?_;walk_at "rd";refine ⟨_,_,_,hb,T.cN,T.fG,_,rfl,_,rfl,.inl ⟨_,.inl hB.pl⟩,_,cY.of ha2,_,fH (j:=1) rfl,_,Et.k (k:=bW (tx (t.map sg))) hB.pl,?_⟩;refine cz (bw (lL 5 tX.nd (iG fP (pv 2) bG (λ_ _=>rfl)))) ?_;walk_at "rd";refine ⟨_,cY.of ha2,_,fH (j:=2) rfl,?_⟩;refine cz (bw (dW (PW.pt (pw_or (bZ yG (pv 3) nY (cP _)) (pw_or1 (bZ yG (pv 4) nY (cP _))))) (aK (bB (bH T.Hv))) b7)) ?_;walk_at "rd";rcases hB.ajB f with ⟨e1,e2⟩ | ⟨i,p,sa,la,e1,hp,hat,hpa,e2⟩
  ·rw [e2];rw [e1,jk,eO,Np] at q;simp only [↓reduceIte];exact q H (bh.refl H)
  ·rw [e2];simp only [reduceCtorEq,↓reduceIte];rcases hB.ajB t with ⟨f1,f2⟩ | ⟨j,p2,ta,la2,f1,hp2,apn,Yw,f2⟩
   ·rw [f2];rw [e1,f1,jk,gj,Np] at q;simp only [↓reduceIte];exact q H (bh.refl H)
   ·rw [f2];simp only [reduceCtorEq,↓reduceIte];rw [e1,f1,gG,gG,dF,FZ,jX,jX,hat,apn] at q;have hP:=hB.pat i p sa la hp hpa;have hP2:=hB.pat j p2 ta la2 hp2 Yw;obtain ⟨dxs,hso⟩:=hP.ob;obtain ⟨dxt,hto⟩:=hP2.ob;refine cz (bw (dW (bZ oN (aO (pv 3) rfl) (aO (pv 4) rfl) (cP _)) (aK (bB (bH T.zV))) b7)) ?_;walk_at "rd";refine ⟨_,_,_,hso,T.d7,T.fO,_,rfl,_,_,_,hto,T.d7,T.fO,_,rfl,rfl,?_⟩;by_cases hij:i=j
    ·subst hij;rw [if_pos rfl];have:(i != i)=false:=by simp
     rw [this,eO,Np] at q;exact q H (bh.refl H)
    ·rw [if_neg (λz=>hij (by have:=V.int.inj z;omega))];refine cz (bw (dW (PW.pt (pw_or (bZ vz (aO (pv 3) rfl) (bH T.Yo) rfl) (pw_or1 (bZ vz (aO (pv 4) rfl) (bH T.Yn) rfl)))) (aK (bB (bH T.zV))) b7)) ?_;walk_at "rd";have:(i != j)=true:=by simp [hij]
     rw [this,dJ] at q;refine ⟨_,_,_,hso,T.d7,T.iH,_,rfl,_,.inr T.W2.sq,rfl,rfl,?_⟩;have ek1:inV (.str (eF p.kind)) [V.str "ground",V.str "pile"]=(p.kind== .ground || p.kind== .pile):=by
      have:=Rw p.kind ["ground","pile"] [.ground,.pile] rfl;rw [show ([V.str "ground",V.str "pile"]:List V)=(["ground","pile"]:List Str).map V.str from rfl,this];cases p.kind<;>rfl
     have ek2:inV (.str (eF p2.kind)) [V.str "pile",V.str "plant",V.str "waste"]=(p2.kind== .pile || (p2.kind== .plant || p2.kind== .waste)):=by
      have:=Rw p2.kind ["pile","plant","waste"] [.pile,.plant,.waste] rfl;rw [show ([V.str "pile",V.str "plant",V.str "waste"]:List V)=(["pile","plant","waste"]:List Str).map V.str from rfl,this];cases p2.kind<;>rfl
     refine ⟨_,(j8 _).symm,?_⟩;rw [ek1];have emv:Vbmiam.moves p.kind p2.kind=((p.kind== .ground || p.kind== .pile)&&(p2.kind== .pile || (p2.kind== .plant || p2.kind== .waste))):=rfl;rw [emv] at q;cases hk1:(p.kind==eU.ground || p.kind==ZD) with
     |false=>
      rw [hk1,eO,Np] at q;simp only [gn,↓reduceIte];exact q H (bh.refl H)
     |true=>
      rw [hk1,dJ] at q;simp only [gV,cD,↓reduceIte];refine ⟨_,_,_,hto,T.d7,T.iH,_,rfl,_,.inr T.W0.sq,rfl,rfl,_,(j8 _).symm,?_⟩;rw [ek2];cases hk2:(p2.kind==ZD || (p2.kind==eU.plant || p2.kind==eU.waste)) with
      |false=>
       rw [hk2,Np] at q;simp only [gn,↓reduceIte];exact q H (bh.refl H)
      |true=>
       rw [hk2,FZ] at q;simp only [gV,cD,↓reduceIte];refine cz (bw (dW (kO (qd ni ni bG (pv 5) (bH T.wJ))) (aK (bB (bH T.kh))) b7)) ?_;walk_at "rd";by_cases hv:1<=au k/\au k<=eY
       ·rw [decide_eq_true hv,FZ] at q;have hv2:au k<=1000000000000:=hv.2;rw [if_pos (by omega)];rw [if_neg (by omega)];refine cz (bw (lL 6 tX.nd (iG fP (aO (pv 3) rfl) bG (λ_ _=>rfl)))) ?_;walk_at "rd";refine ⟨_,_,_,hso,T.d7,T.gJ,_,rfl,la,rfl,_,cY.of hP.am,_,fH (j:=0) rfl,?_⟩;refine cz (bw (dW (bZ Kv (pv 6) (pv 5) (cP _)) (aK (bB (bH T.Ry))) b7)) ?_;walk_at "rd";by_cases hh:au k<=p.kg
        ·rw [decide_eq_true hh,FZ,Pb] at q;dsimp only at q;rw [if_neg (by omega)];refine cz (bw (Kr (i:=7) rfl tX.nd rfl rfl (Q8 rfl rfl rfl (by decide+kernel)) (uU (jF lF (aO (pv 3) rfl) (gr bG) pM)) (iJ (N:=abu) (sc:=aX M3) (own:=[("part",8)]) (by decide+kernel)) (λ_ _ _ _ _=>(eZ (i:=8) tX.nd rfl (dZ rfl) (hf:=gF rfl))) (λ_ _ _ _ _=>kJ) (λ_ _ _ _ _=>(fC aeg (fC XJ (pv 8) (pv 5)) (pv 6))))) ?_;walk_at "rd";have aub:p.kg≠0:=by omega
         have hpk:=hB.ok.pk p (aM hp);have hpm:=hB.ok.pm p (aM hp);refine ⟨sa,rfl,_,_,_,hso,T.d7,T.gJ,_,rfl,1,rfl,la,_,rfl,cY.of hP.am,λc hc=>?_⟩;have e1c:ym (bV (p.kg::p.metals)) (some 1) none=bV p.metals:=Uj (bV (p.kg::p.metals)) 1;rw [e1c];have s1:bh H (upd H c (.lst (bV p.metals))):=bh.new hc;have hcl:upd H c (.lst (bV p.metals)) c=some (.lst (bV p.metals)):=aD;generalize upd H c (.lst (bV p.metals))=H1 at s1 hcl;refine ⟨c,rfl,⟨_,cY.of hcl⟩,FJ (al6 (au k) p.kg) (cY.of hcl) (by rw [ao];exact aY (by omega:p.metals.length<=2) (by decide)) ?_ ?_⟩
         ·intro z x H2 R hx s2 h;obtain ⟨m,hm,rfl⟩:=Gi hx;walk_at "rd";exact ⟨.inr ⟨by omega,by omega⟩,⟨by omega,ao6 hpk (by omega)⟩,h H2 (bh.refl H2)⟩
         ·intro D H2 hD s2 h;rw [aiR aub] at h;have hsl:sizeLine=16777216:=sizeLine_eq;have els:(lR p (au k)).length=p.metals.length:=ao ..;refine cz (aK (bB (cJ SJ (hr.mono (by decide)) rfl T.acM T.MJ.kp T.R8 .nil dz (aq (pv 1) (aq (pv 3) (aq (pv 4) (aq (fC qg (cZ (aq (pv 5) aG)) (pv 7)) aG))))))) ?_;walk_at "rd";refine ⟨by decide,λp1 n1=>⟨_,aD,_,(by rw [aF (fK h n1)];exact h),by rw [ao,els];simp only [aH,bF];omega,λc2 n2=>?_⟩⟩;have s3:bh H2 (upd H2 p1 (.lst [V.int (au k:Int)])):=bh.new n1;have s4:bh H (upd (upd H2 p1 (.lst [V.int (au k:Int)])) c2 (.lst ([V.int (au k:Int)]++bV (lR p (au k))))):=((s1.trans s2).trans s3).trans (bh.new n2);have fc2:H c2=none:=((s1.trans s2).trans s3).free n2;refine ⟨r,sa,ta,c2,b,N,B,es,L,S,dx,e,mo,tx u.name,i,j,p,p2,la,la2,au k,lR p (au k),rfl,hB.same s4,hr1,s4 _ _ hr2,hij,hp,hpa,hp2,Yw,aD,
           (λz=>by rw [z,hB.me] at fc2;cases fc2),(λz=>by rw [z,hB.re] at fc2;cases fc2),by rw [els];exact hpm,hv.2,(λz=>by rw [aiS hh] at z;cases z),λ_ H5 aft=>q H5 (aft.after.back s4 fc2)⟩
        ·rw [decide_eq_false hh,Np] at q;rw [if_pos (by omega)];exact q H (bh.refl H)
       ·rw [decide_eq_false hv,Np] at q;have hv:¬(1<=au k/\au k<=1000000000000):=hv;have q1:=q H (bh.refl H);split
        ·rw [if_pos (by omega)];exact q1
        ·exact q1))
theorem ao4(v:Nat)(ms:List (List Nat)):ajj (v::ms.map au)= !(decide (v<=eY)&&ms.all λm=>decide (au m<=j0)):=(by apply aj:aa (by
 unfold ajj;rw [aiu];congr 1
 ·show decide (eY<v)= !decide (v<=eY);by_cases z:v<=eY
  ·rw [decide_eq_true z,decide_eq_false (by omega)];rfl
  ·rw [decide_eq_false z,decide_eq_true (by omega)];rfl
 ·show (ms.map au).any _=_;rw [Wv,JW];congr 1;funext m;show decide (j0<au m)= !decide (au m<=j0);by_cases z:au m<=j0
  ·rw [decide_eq_true z,decide_eq_false (by omega)];rfl
  ·rw [decide_eq_false z,decide_eq_true (by omega)];rfl))
def ab6(B:aC)(u:dG)(us:List (List Nat)):Prop:=∃f t k ms,us=f::t::k::ms/\bj f=true/\bj t=true/\aN k=true/\ms.all aN=true/\ms.length=B.metals.length
theorem af8(T:Txt P w K mg A):fU P w K mg base mU 4 A.Nt A.Bt Nb (Jp A "ship" ab6):=(by apply aj:aa (by
 have SJ:=XS (base:=base) T;have Ck:=Jt (base:=base) T;refine T.Mx.ok GQ (λvs H Q E h=>?_) (λcdv A' outer s H vs Q E hr h=>?_)
 ·obtain ⟨b,r,a,N,B,es,L,S,dx,e,mo,u,us,rfl,_⟩:=h;rfl
 ·obtain ⟨b,r,a,N,B,es,L,S,dx,e,mo,u,us,rfl,hB,hN,hN2,hr1,hr2,ha1,ha2,_,_,⟨f,t,k,ms,rfl,hf,ht,hk,hms,hml⟩,q⟩:=h;refine ⟨_,(bw (lL 3 GQ.nd (Fp (hu1 hr) (aO (pv 0) rfl) (iG fP (pv 2) bG (λ_ _=>rfl)) ⟨rfl,rfl,rfl,rfl⟩))),?_⟩;rw [bu,bu,bu,uv hf,uv ht,yo hk,abq hms] at ha2;obtain ⟨BV,hb⟩:=hB.bk;rw [RZ] at q;dsimp only at q;rw [hf,ht,hk,hms,decide_eq_true hml,dF,dF,dF,dF,FZ] at q;have hme:B.metals.length<=2:=hB.ok.me;walk_at "rd";refine ⟨_,_,_,hb,T.cN,T.fG,_,rfl,_,rfl,.inl ⟨_,.inl hB.pl⟩,_,cY.of ha2,_,fH (j:=0) rfl,_,Et.k (k:=bW (tx (f.map sg))) hB.pl,?_⟩;refine cz (bw (lL 4 GQ.nd (Fp (hu1 hr) (aO (pv 0) rfl) (iG fP (pv 2) bG (λ_ _=>rfl)) ⟨rfl,rfl,rfl,rfl⟩))) ?_;walk_at "rd";refine ⟨_,_,_,hb,T.cN,T.fG,_,rfl,_,rfl,.inl ⟨_,.inl hB.pl⟩,_,cY.of ha2,_,fH (j:=1) rfl,_,Et.k (k:=bW (tx (t.map sg))) hB.pl,?_⟩;refine cz (bw (lL 5 GQ.nd (jF lF (pv 2) (gr bG) pM))) ?_;walk_at "rd";refine ⟨_,cY.of ha2,λc hc=>?_⟩;have e1c:ym (V.str (tx (f.map sg))::V.str (tx (t.map sg))::V.int (au k:Int)::bV (ms.map au)) (some 2) none=bV (au k::ms.map au):=Uj _ 2;rw [e1c];have s1:bh H (upd H c (.lst (bV (au k::ms.map au)))):=bh.new hc;have hcl:upd H c (.lst (bV (au k::ms.map au))) c=some (.lst (bV (au k::ms.map au))):=aD;generalize upd H c (.lst (bV (au k::ms.map au)))=H1 at s1 hcl;have hB1:=hB.same s1;refine cz (bw (dW (PW.pt (pw_or (bZ yG (pv 3) nY (cP _)) (pw_or1 (bZ yG (pv 4) nY (cP _))))) (aK (bB (bH T.Hv))) b7)) ?_;walk_at "rd";rcases hB.ajB f with ⟨e1,e2⟩ | ⟨i,p,sa,la,e1,hp,hat,hpa,e2⟩
  ·rw [e2];rw [e1,jk,eO,Np] at q;simp only [↓reduceIte];exact q H1 s1
  ·rw [e2];simp only [reduceCtorEq,↓reduceIte];rcases hB.ajB t with ⟨f1,f2⟩ | ⟨j,p2,ta,la2,f1,hp2,apn,Yw,f2⟩
   ·rw [f2];rw [e1,f1,jk,gj,Np] at q;simp only [↓reduceIte];exact q H1 s1
   ·rw [f2];simp only [reduceCtorEq,↓reduceIte];rw [e1,f1,gG,gG,dF,FZ,jX,jX,hat,apn] at q;have hP:=hB1.pat i p sa la hp hpa;have hP2:=hB1.pat j p2 ta la2 hp2 Yw;obtain ⟨dxs,hso⟩:=hP.ob;obtain ⟨dxt,hto⟩:=hP2.ob;refine cz (bw (dW (PW.pt (pw_or (bZ vz (aO (pv 3) rfl) (bH T.Yl) rfl) (pw_or1 (bZ vz (aO (pv 4) rfl) (bH T.Yk) rfl)))) (aK (bB (bH T.zV))) b7)) ?_;walk_at "rd";refine ⟨_,_,_,hso,T.d7,T.iH,_,rfl,_,.inr T.WX.sq,rfl,rfl,_,(j8 _).symm,?_⟩;have ek1:inV (.str (eF p.kind)) [V.str "plant"]=(p.kind== .plant):=by
     have:=Rw p.kind ["plant"] [.plant] rfl;rw [show ([V.str "plant"]:List V)=(["plant"]:List Str).map V.str from rfl,this];cases p.kind<;>rfl
    have ek2:inV (.str (eF p2.kind)) [V.str "waste",V.str "sold"]=(p2.kind== .waste || p2.kind== .sold):=by
     have:=Rw p2.kind ["waste","sold"] [.waste,.sold] rfl;rw [show ([V.str "waste",V.str "sold"]:List V)=(["waste","sold"]:List Str).map V.str from rfl,this];cases p2.kind<;>rfl
    rw [ek1];have emv:Vbmiam.ships p.kind p2.kind=((p.kind== .plant)&&(p2.kind== .waste || p2.kind== .sold)):=rfl;rw [emv] at q;cases hk1:(p.kind==eU.plant) with
    |false=>
     rw [hk1,eO,Np] at q;simp only [gn,↓reduceIte];exact q H1 s1
    |true=>
     rw [hk1,dJ] at q;simp only [gV,cD,↓reduceIte];refine ⟨_,_,_,hto,T.d7,T.iH,_,rfl,_,.inr T.WW.sq,rfl,rfl,_,(j8 _).symm,?_⟩;rw [ek2];cases hk2:(p2.kind==eU.waste || p2.kind==eU.sold) with
     |false=>
      rw [hk2,Np] at q;simp only [gn,↓reduceIte];exact q H1 s1
     |true=>
      rw [hk2,FZ] at q;simp only [gV,cD,↓reduceIte];refine cz (bw (dW (PW.pt (pw_or (bZ Kv (iG fP (pv 5) bG (λ_ _=>rfl)) bG (cP _)) (pw_or1 (lN (cJ Ck (hr.mono (by decide)) rfl T.K7 T.pY.kp T.vQ .nil dz (aq (pv 5) aG)))))) (aK (bB (bH T.kh))) b7)) ?_;walk_at "rd";refine ⟨_,cY.of hcl,_,fH (j:=0) rfl,_,rfl,?_⟩;have hij:i≠j:=λz=>by
       subst z;rw [hp] at hp2;cases aB hp2;rw [eq_of_beq hk1] at hk2;cases hk2
      by_cases h1:au k<1
      ·rw [if_pos (by omega)];rw [decide_eq_false (show ¬(1<=au k/\au k<=eY) by omega),eO,Np] at q;exact q H1 s1
      ·rw [if_neg (by omega)];refine ⟨c,_,_,rfl,cY.of hcl,by rw [ao];omega,λH2 s2=>?_⟩;refine ⟨_,rfl,?_⟩;rw [ao4];have eg:decide (1<=au k/\au k<=eY)=decide (au k<=eY):=decide_eq_decide.mpr ⟨λz=>z.2,λz=>⟨by omega,z⟩⟩;rw [eg] at q;cases hlim:(decide (au k<=eY)&&ms.all λm=>decide (au m<=j0)) with
       |false=>
        rw [hlim,Np] at q;simp only [gn,↓reduceIte];exact q H2 (s1.trans s2)
       |true=>
        rw [hlim,FZ] at q;simp only [gV,cD,↓reduceIte];have hlk:au k<=eY:=of_decide_eq_true (bf _ _▸hlim).1;have s3:=s1.trans s2;refine cz (aK (bB (cJ SJ (hr.mono (by decide)) rfl T.acM T.MJ.kp T.R8 .nil dz (aq (pv 1) (aq (pv 3) (aq (pv 4) (aq (pv 5) aG))))))) ?_;walk_at "rd";refine ⟨r,sa,ta,c,b,N,B,es,L,S,dx,e,mo,tx u.name,i,j,p,p2,la,la2,au k,ms.map au,rfl,hB.same s3,hr1,s3 _ _ hr2,hij,hp,hpa,hp2,Yw,s2 _ _ hcl,
         (λz=>by rw [z,hB.me] at hc;cases hc),(λz=>by rw [z,hB.re] at hc;cases hc),by rw [ao];exact hml,hlk,(λz H' s4=>?_),λz H5 aft=>?_⟩
        ·rw [z,Np] at q;exact q H' (s3.trans s4)
        ·rw [z,FZ,Pb] at q;exact q H5 (aft.after.back s3 hc)))
theorem bJ.mark{N:Nat}{H:Hp}{b ra dx:Addr}{B:aC}{es:List Nat}{L:Lay}{S:Addr->Prop}{k:Nat}{r:jw}{e:Nat}{u:Str}{v:V}(T:Txt P w K mg A)(h:bJ A N H b B es L S)(h1:B.records[k]? =some r)(h2:L.rs[k]? =some ra)(h3:es[k]? =some e)(ha:H ra=some (.ins A.cX dx (nW e r.month u r.code r.back v))):
  bJ A N (upd H ra (.ins A.cX dx (nW e r.month u r.code true v))) b {B with records:=B.records.set k {r with back:=true}} es L S:=(by apply aj:aa (by
 obtain ⟨BV,hb⟩:=h.bk;have hk:k<B.records.length:=(aQ.mp h1).1;have nps:∀a∈L.ps,a.1≠ra/\a.2≠ra:=λa haa=>by
  obtain ⟨n,p,⟨d,e1⟩,e2⟩:=h.wK (a:=a.1) (la:=a.2) haa;exact ⟨dC e1 ha (by intro z;injection z with z1 _ _;exact T.Jw z1),dC e2 ha (by intro z;cases z)⟩
 have nma:∀ma la m,qI A H L ma la m->ma≠ra/\la≠ra:=λma la m q=>by
  obtain ⟨d,sa,ta,e1,_⟩:=q.ob;exact ⟨dC e1 ha (by intro z;injection z with z1 _ _;exact T.Bk z1),dC q.am ha (by intro z;cases z)⟩
 have mvk:∀(v:V) (mv:Option bK),V5 A H L S v mv->V5 A (upd H ra (.ins A.cX dx (nW e r.month u r.code true v))) L S v mv:=λv mv q=>by
  cases mv with
  |none=>exact q
  |some m=>
   obtain ⟨ma,la,ev,q1,q2,q3⟩:=q;obtain ⟨n1,n2⟩:=nma ma la m q1;exact ⟨ma,la,ev,q1.keep (λo e=>by rw [aF n1];exact e) (λo e=>by rw [aF n2];exact e),q2,q3⟩
 have aq2:∀(v2:V) (mv:Option bK),V5 A H L S v2 mv->V5 A (upd H ra (.ins A.cX dx (nW e r.month u r.code true v))) L S v2 mv:=λv2 mv q=>by
  cases mv with
  |none=>exact q
  |some m=>
   obtain ⟨ma,la,ev,q1,q2,q3⟩:=q;obtain ⟨n1,n2⟩:=nma ma la m q1;exact ⟨ma,la,ev,q1.keep (λo e=>by rw [aF n1];exact e) (λo e=>by rw [aF n2];exact e),q2,q3⟩
 exact
 {ok:={h.ok with
   mv:=λx hx m hm=>by
    rcases jN hx with q | q
    ·exact h.ok.mv x q m hm
    ·rw [q] at hm⊢;exact h.ok.mv r (aM h1) m hm}
  bk:=⟨BV,by rw [aF (dC hb ha (by intro z;injection z with z1 _ _;exact T.Jv z1.symm))];exact hb⟩
  us:=by rw [aF (dC h.us ha (by intro z;cases z))];exact h.us
  me:=by rw [aF (dC h.me ha (by intro z;cases z))];exact h.me
  pl:=by rw [aF (dC h.pl ha (by intro z;cases z))];exact h.pl
  sc:=by rw [aF (dC h.sc ha (by intro z;cases z))];exact h.sc
  re:=by rw [aF (dC h.re ha (by intro z;cases z))];exact h.re
  yE:=h.yE
  Cr:=by show L.rs.length=(B.records.set k _).length;rw [pX];exact h.Cr
  esl:=by show es.length=(B.records.set k _).length;rw [pX];exact h.esl
  pat:=λi p a la e1 e2=>by
   obtain ⟨n1,n2⟩:=nps _ (aM e2);exact (h.pat i p a la e1 e2).keep (λo e=>by rw [aF n1];exact e) (λo e=>by rw [aF n2];exact e)
  rat:=λi x a e' e1 e2 e3=>by
   have e1:(B.records.set k {r with back:=true})[i]? =some x:=e1;by_cases hj:k=i
   ·subst hj;rw [fQ hk] at e1;cases aB e1;rw [h2] at e2;cases aB e2;rw [h3] at e3;cases aB e3;obtain ⟨d,u',v',q1,q2,q3⟩:=h.rat k r ra e h1 h2 h3;rw [ha] at q1;injection q1 with q1
    injection q1 with _ y1 y2
    unfold nW at y2;simp only [Ow,iY.injEq,true_and,V.str.injEq,and_true] at y2;obtain ⟨y3,y4⟩:=y2;subst y1 y3 y4;exact ⟨dx,u,v,aD,aq2 _ _ q2,q3⟩
   ·rw [fV hj] at e1;obtain ⟨d,u',v',q1,q2,q3⟩:=h.rat i x a e' e1 e2 e3;have na:a≠ra:=λz=>by
     rw [z] at e2;exact hj (alp h.Zx h2 e2)
    exact ⟨d,u',v',by rw [aF na];exact q1,aq2 _ _ q2,q3⟩
  Xw:=h.Xw
  Zx:=h.Zx
  ne:=h.ne
  Xv:=h.Xv
  own:=h.own}))
def aca(B:aC)(u:dG)(us:List (List Nat)):Prop:=∃n,us=[n]/\aN n=true/\2<=u.rank
theorem agb(T:Txt P w K mg A):fU P w K mg base mU 4 A.Ny A.Bw Nh (Jp A "back" aca):=(by apply aj:aa (by
 have SJ:=XS (base:=base) T;refine T.MF.ok GR (λvs H Q E h=>?_) (λcdv A' outer s H vs Q E hr h=>?_)
 ·obtain ⟨b,r,a,N,B,es,L,S,dx,e,mo,u,us,rfl,_⟩:=h;rfl
 ·obtain ⟨b,r,a,N,B,es,L,S,dx,e,mo,u,us,rfl,hB,hN,hN2,hr1,hr2,ha1,ha2,_,_,⟨n,rfl,hn,hrk⟩,q⟩:=h;refine ⟨_,(bw (lL 3 GR.nd (iG fP (pv 2) bG (λ_ _=>rfl)))),?_⟩;rw [bu,jE,yo hn] at ha2;obtain ⟨BV,hb⟩:=hB.bk;rw [R3] at q;dsimp only at q;walk_at "rd";refine ⟨_,cY.of ha2,_,fH (j:=0) rfl,?_⟩;refine cz (bw (dW (kO (qd ni ni bG (pv 3) (cH cW rfl T.jG bI (aq (aO (pv 0) rfl) aG)))) (aK (bB (bH T.Ub))) b7)) ?_;walk_at "rd";rw [hn,FZ,decide_eq_true hrk,FZ,Pb] at q;simp only [FZ] at q;have aqO:¬(1<=au n/\au n<=B.records.length)->Q (.int 11) H:=λhv=>by
   rw [decide_eq_false hv,eO] at q;cases hmv:(B.records.getD (au n - 1) {user:=[],code:=1,month:=0,move:=none,back:=true}).move with
   |none=>
    rw [hmv] at q;exact q H (bh.refl H)
   |some m=>
    rw [hmv] at q;exact q H (bh.refl H)
  by_cases hv1:1<=au n
  ·rw [if_pos (by omega)];refine ⟨_,_,_,hb,T.cN,T.fD,_,rfl,_,rfl,_,.inl (cY.of hB.re),?_⟩;rw [ao,hB.Cr];by_cases hv2:au n<=B.records.length
   ·rw [if_neg (by omega)];obtain ⟨r0,hr0⟩:∃r0,B.records[au n - 1]? =some r0:=⟨_,ak (by omega)⟩;obtain ⟨ra,hra⟩:∃ra,L.rs[au n - 1]? =some ra:=⟨_,ak (by rw [hB.Cr];omega)⟩;obtain ⟨e0,he0⟩:∃e0,es[au n - 1]? =some e0:=⟨_,ak (by rw [hB.esl];omega)⟩;obtain ⟨dx0,u0,v0,h1,h2,h3⟩:=hB.rat _ r0 ra e0 hr0 hra he0;have hat:atI (L.rs.map V.ref) ((au n:Int) - 1)=some (.ref ra):=at_of (j:=au n - 1) (by omega) (by rw [aW,hra];rfl);refine cz (bw (lL 4 GR.nd (iG fP (aO (pv 0) rfl) (fC DY (pv 3) bG) (λ_ _=>rfl)))) ?_;walk_at "rd";refine ⟨_,_,_,hb,T.cN,T.fD,_,rfl,_,rfl,_,cY.of hB.re,_,hat,?_⟩;refine cz (bw (dW (PW.pt (pw_or (bZ yG (aO (pv 4) rfl) nY (cP _)) (pw_or1 (lN (aO (pv 4) rfl))))) (aK (bB (bH T.Ub))) b7)) ?_;walk_at "rd";refine ⟨_,_,_,h1,T.dg,T.d9,_,rfl,?_⟩;have eg:B.records.getD (au n - 1) {user:=[],code:=1,month:=0,move:=none,back:=true}=r0:=by rw [cC,hr0];rfl
    rw [eg,decide_eq_true ⟨hv1,hv2⟩,dJ] at q;cases hm:r0.move with
    |none=>
     rw [hm] at h2 q;have h2:v0= .non:=h2;rw [if_pos h2];exact q H (bh.refl H)
    |some m=>
     rw [hm] at h2 q;obtain ⟨ma,lm,ev,hMA,awX,aul⟩:=h2;dsimp only at q;rw [if_neg (by rw [ev];intro z;cases z)];refine ⟨_,_,_,h1,T.dg,T.jf,_,rfl,r0.back,rfl,?_⟩;cases hbk:r0.back with
     |true=>
      rw [hbk,gV,Np] at q;simp only [↓reduceIte];exact q H (bh.refl H)
     |false=>
      rw [hbk,gn,FZ] at q;simp only [cD,↓reduceIte];have hu0:u0=tx r0.user:=h3.1 (by rw [hm];rfl);refine cz (bw (dW (bZ oN (aO (pv 4) rfl) (aO (pv 1) rfl) (cP _)) (aK (bB (bH T.acB))) b7)) ?_;walk_at "rd";refine ⟨_,_,_,h1,T.dg,T.qi,_,rfl,_,_,_,hr2,T.dg,T.qi,_,rfl,rfl,?_⟩;obtain ⟨i1,i2,i3,i4,i5,i6⟩:=hB.ok.mv r0 (aM hr0) m hm;by_cases hun:r0.user=u.name
      ·rw [if_pos (by rw [hu0,hun])];have:(r0.user != u.name)=false:=by simp [hun]
       rw [this,Np] at q;exact q H (bh.refl H)
      ·rw [if_neg (by rw [hu0];intro z;exact hun (Pz (V.str.inj z)))];have:(r0.user != u.name)=true:=by simp [hun]
       rw [this,FZ] at q;obtain ⟨dxm,sa,ta,hmo,aok,hto⟩:=hMA.ob;subst ev;refine cz (bw (lL 5 GR.nd (cJ SJ (hr.mono (by decide)) rfl T.acM T.MJ.kp T.R8 .nil dz (aq (pv 1) (aq (aO (aO (pv 4) rfl) rfl) (aq (aO (aO (pv 4) rfl) rfl) (aq (aO (aO (pv 4) rfl) rfl) aG))))))) ?_;walk_at "rd";refine ⟨_,_,_,h1,T.dg,T.d9,_,rfl,ma,rfl,_,_,_,hmo,T.mG,T.lu,_,rfl,_,_,_,h1,T.dg,T.d9,_,rfl,ma,rfl,_,_,_,hmo,T.mG,T.lA,_,rfl,_,_,_,h1,T.dg,T.d9,_,rfl,ma,rfl,_,_,_,hmo,T.mG,T.lQ,_,rfl,?_⟩;obtain ⟨pf,hpf⟩:∃pf,B.places[m.from_]? =some pf:=⟨_,ak i1⟩;obtain ⟨pt,hpt⟩:∃pt,B.places[m.to_]? =some pt:=⟨_,ak i2⟩;obtain ⟨⟨sa',laf⟩,arh⟩:∃y,L.ps[m.from_]? =some y:=⟨_,ak (by rw [hB.yE];exact i1)⟩;obtain ⟨⟨ta',lat⟩,arf⟩:∃y,L.ps[m.to_]? =some y:=⟨_,ak (by rw [hB.yE];exact i2)⟩;rw [arh] at aok;rw [arf] at hto;have esa:sa'=sa:=aB aok;have eta:ta'=ta:=aB hto;subst esa eta;have auh:jV B m.to_=pt:=by unfold jV;rw [cC,hpt];rfl
       rw [auh] at q;refine ⟨r,ta',sa',lm,b,N,B,es,L,S,dx,e,mo,tx u.name,m.to_,m.from_,pt,pf,lat,laf,m.kg,m.metals,rfl,hB,hr1,hr2,λz=>i3 z.symm,hpt,arf,hpf,arh,hMA.am,hMA.ne.1,hMA.ne.2,i4,i5,(λz H' s1=>?_),λz H5 aft=>?_⟩
       ·refine cz (aL (dW (bZ oN (pv 5) (bH T.Bo) (cP _)) (aK (gB (pv 4) Js rfl)) b7)
   (aK (bB (pv 5)))) ?_;walk_at "rd"
        refine ⟨rfl,?_⟩;rw [if_neg (by intro y;cases y)];rw [z,Np] at q;exact q H' s1
       ·refine cz (aL (dW (bZ oN (pv 5) (bH T.Bo) (cP _)) (aK (gB (pv 4) Js rfl)) b7)
   (aK (bB (pv 5)))) ?_;walk_at "rd"
        refine ⟨rfl,?_⟩;rw [z,FZ,Pb] at q;dsimp only at q;obtain ⟨L',S',v',hB',aum,hr',hsub,hrs⟩:=aft.ex;have hra':L'.rs[au n - 1]? =some ra:=by rw [hrs];exact hra
        obtain ⟨dx1,u1,v1,h1',_,_⟩:=hB'.rat (au n - 1) r0 ra e0 hr0 hra' he0;have Sra:S ra:=hB.own.2.2.2.2.2.2.2 _ (aM hra);have nrr:r≠ra:=λy=>hr1 (by rw [y];exact Sra);refine ⟨_,_,_,h1',T.dg,T.jf,of_decide_eq_true rfl,q _ ?_⟩;have hB2:=hB'.mark T hr0 hra' he0 h1';rw [Ht _ hr0];refine ⟨⟨L',S',v',hB2,?_,?_,λx hx=>?_⟩,λx o hx hS hxr=>?_⟩
        ·obtain ⟨ma',Zy,ev',q1,q2,q3⟩:=aum;obtain ⟨d,sa2,ta2,y1,y2⟩:=q1.ob;have n1:ma'≠ra:=dC y1 h1' (by intro z;injection z with z1 _ _;exact T.Bk z1);have n2:Zy≠ra:=dC q1.am h1' (by intro z;cases z);exact ⟨ma',Zy,ev',q1.keep (λo e=>(by rw [aF n1];exact e)) (λo e=>(by rw [aF n2];exact e)),q2,q3⟩
        ·rw [aF nrr];exact hr'
        ·rcases hsub x hx with y | y | y
         ·exact .inl y
         ·exact .inr (.inl y)
         ·rw [y];exact .inl aul
        ·rw [aF (λy=>hS (by rw [y];exact Sra))];exact aft.fr x o hx hS hxr
   ·rw [if_pos (by omega)];exact aqO (λz=>hv2 z.2)
  ·rw [if_neg (by omega)];exact aqO (λz=>hv1 z.1)))
end
noncomputable abbrev Rc (us:List (List Nat)):List (List Nat):=us.map (·.map sg)
theorem yc(u:List Nat):ju (u.map sg) "name"=bj u:=by
 unfold ju;rw [if_pos rfl,ajt]
theorem Nq(u:List Nat):ju (u.map sg) "numeral"=aN u:=by
 unfold ju;rw [if_neg (by decide+kernel),if_neg (by decide+kernel),if_pos rfl,Hx]
theorem anL(u:List Nat):ju u "anything"=true:=by
 unfold ju;rw [if_neg (by decide+kernel),if_neg (by decide+kernel),if_neg (by decide+kernel)]
theorem WT(s:String)(h:(bT s).all known=true):∀c∈bT s,known c=true:=dH.mp h
theorem uO{k:List Nat}{s:String}(h:(bT s).all known=true):tx (k.map sg)=bA s↔k=bT s:=by
 rw [<-ahv];constructor
 ·intro q;exact (Tt (WT s h)).mp (Pz q)
 ·intro q;rw [(Tt (WT s h)).mpr q]
theorem amc(k:List Nat):ju (k.map sg) "kind"=(uz k).isSome:=(by apply aj:aa (by
 unfold ju;rw [if_neg (by decide+kernel),if_pos rfl,iy,decide_eq_true_eq];have e1:=uO (k:=k) (s:="ground") (by decide+kernel);have e2:=uO (k:=k) (s:="pile") (by decide+kernel);have e3:=uO (k:=k) (s:="plant") (by decide+kernel);have e4:=uO (k:=k) (s:="waste") (by decide+kernel);have e5:=uO (k:=k) (s:="sold") (by decide+kernel);unfold FN uz;simp only [bc,bU,or_false,e1,e2,e3,e4,e5];by_cases h1:k=bT "ground"
 ·rw [if_pos h1];exact ⟨λ_=>rfl,λ_=>.inl h1⟩
 ·rw [if_neg h1];by_cases h2:k=bT "pile"
  ·rw [if_pos h2];exact ⟨λ_=>rfl,λ_=>.inr (.inl h2)⟩
  ·rw [if_neg h2];by_cases h3:k=bT "plant"
   ·rw [if_pos h3];exact ⟨λ_=>rfl,λ_=>.inr (.inr (.inl h3))⟩
   ·rw [if_neg h3];by_cases h4:k=bT "waste"
    ·rw [if_pos h4];exact ⟨λ_=>rfl,λ_=>.inr (.inr (.inr (.inl h4)))⟩
    ·rw [if_neg h4];by_cases h5:k=bT "sold"
     ·rw [if_pos h5];exact ⟨λ_=>rfl,λ_=>.inr (.inr (.inr (.inr h5)))⟩
     ·rw [if_neg h5];constructor
      ·rintro (z | z | z | z | z)
       ·exact absurd z h1
       ·exact absurd z h2
       ·exact absurd z h3
       ·exact absurd z h4
       ·exact absurd z h5
      ·intro z;cases z))
theorem agH{c:Str}(h:forms.lookup c=none)(us:List (List Nat))(m:Nat):wA c us m=false:=by unfold wA;rw [h]
theorem mF{c:Str}{fs:List Str}(h:forms.lookup c=some fs)(us:List (List Nat))(m:Nat):wA c us m=(decide ((want us.length m fs).length=us.length)&&(bM ju us (want us.length m fs)).all id):=by unfold wA;rw [h]
theorem Tg(g m:Nat):iD g m "name"=(["name"]:List Str):=by unfold iD;rw [if_neg (by decide+kernel),if_neg (by decide+kernel),if_neg (by decide+kernel)]
theorem adz(g m:Nat):iD g m "numeral"=(["numeral"]:List Str):=by unfold iD;rw [if_neg (by decide+kernel),if_neg (by decide+kernel),if_neg (by decide+kernel)]
theorem aot(g m:Nat):iD g m "kind"=(["kind"]:List Str):=by unfold iD;rw [if_neg (by decide+kernel),if_neg (by decide+kernel),if_neg (by decide+kernel)]
theorem akO(g m:Nat):iD g m "each metal"=bx m ("numeral":Str):=by unfold iD;rw [if_pos rfl]
theorem amD(g m:Nat):iD g m "pairs"=bx (max 2 (g+g%2)) ("numeral":Str):=by unfold iD;rw [if_neg (by decide+kernel),if_pos rfl]
theorem w_any(g m:Nat):iD g m "anything"=bx g ("anything":Str):=by unfold iD;rw [if_neg (by decide+kernel),if_neg (by decide+kernel),if_pos rfl]
theorem QZ:∀(us:List (List Nat)),(bM ju (Rc us) (bx us.length ("numeral":Str))).all id=us.all aN
 |[]=>rfl
 |u::us=>by
  show (ju (u.map sg) "numeral"&&(bM ju (Rc us) (bx us.length ("numeral":Str))).all id)=(aN u&&us.all aN);rw [QZ us,Nq]
theorem adw:∀(us:List (List Nat)),(bM ju (Rc us) (bx us.length ("anything":Str))).all id=true
 |[]=>rfl
 |u::us=>by
  show (ju (u.map sg) "anything"&&(bM ju (Rc us) (bx us.length ("anything":Str))).all id)=true;rw [adw us,anL];rfl
theorem ajI(us:List (List Nat))(m:Nat):wA "user" (Rc us) m=match us with | [n,r]=>bj n&&aN r | _=>false:=(by apply aj:aa (by
 rw [mF (show forms.lookup ("user":Str)=some (["name","numeral"]:List Str) by decide+kernel)];have e:want (Rc us).length m ["name","numeral"]=(["name","numeral"]:List Str):=by
  show iD _ _ _++(iD _ _ _++[])=_;rw [Tg,adz];rfl
 rw [e]
 match us with
 |[]=>rfl
 |[_]=>rfl
 |[n,r]=>
  show (true&&(ju (n.map sg) "name"&&(ju (r.map sg) "numeral"&&true)))=_;rw [yc,Nq,dF,dJ]
 |_::_::_::l=>
  rw [decide_eq_false]
  ·rfl
  ·rw [ao];simp))
theorem agF(us:List (List Nat))(m:Nat):wA "metal" (Rc us) m=match us with | [n]=>bj n | _=>false:=(by apply aj:aa (by
 rw [mF (show forms.lookup ("metal":Str)=some (["name"]:List Str) by decide+kernel)];have e:want (Rc us).length m ["name"]=(["name"]:List Str):=by
  show iD _ _ _++[]=_;rw [Tg];rfl
 rw [e]
 match us with
 |[]=>rfl
 |[n]=>
  show (true&&(ju (n.map sg) "name"&&true))=_;rw [yc,dF,dJ]
 |_::_::l=>
  rw [decide_eq_false]
  ·rfl
  ·rw [ao];simp))
theorem agE(us:List (List Nat))(m:Nat):wA "place" (Rc us) m=match us with | [n,k]=>bj n&&(uz k).isSome | _=>false:=(by apply aj:aa (by
 rw [mF (show forms.lookup ("place":Str)=some (["name","kind"]:List Str) by decide+kernel)];have e:want (Rc us).length m ["name","kind"]=(["name","kind"]:List Str):=by
  show iD _ _ _++(iD _ _ _++[])=_;rw [Tg,aot];rfl
 rw [e]
 match us with
 |[]=>rfl
 |[_]=>rfl
 |[n,r]=>
  show (true&&(ju (n.map sg) "name"&&(ju (r.map sg) "kind"&&true)))=_;rw [yc,amc,dF,dJ]
 |_::_::_::l=>
  rw [decide_eq_false]
  ·rfl
  ·rw [ao];simp))
theorem ajK(us:List (List Nat))(m:Nat):wA "open" (Rc us) m=match us with | n::k::ms=>bj n&&(aN k&&(ms.all aN&&decide (ms.length=m))) | _=>false:=(by apply aj:aa (by
 rw [mF (show forms.lookup ("open":Str)=some (["name","numeral","each metal"]:List Str) by decide+kernel)];have e:want (Rc us).length m ["name","numeral","each metal"]=("name"::"numeral"::bx m "numeral":List Str):=by
  show iD _ _ _++(iD _ _ _++(iD _ _ _++[]))=_;rw [Tg,adz,akO,iw];rfl
 rw [e]
 match us with
 |[]=>rw [decide_eq_false (by simp)];rfl
 |[_]=>rw [decide_eq_false (by simp)];rfl
 |n::k::ms=>
  by_cases hl:ms.length=m
  ·subst hl;rw [decide_eq_true (by simp)];show (true&&(ju (n.map sg) "name"&&(ju (k.map sg) "numeral"&&(bM ju (Rc ms) (bx ms.length ("numeral":Str))).all id)))=(bj n&&(aN k&&(ms.all aN&&decide (ms.length=ms.length))));rw [QZ,yc,Nq,decide_eq_true rfl,dF,dJ]
  ·rw [decide_eq_false (by simp;exact λz=>hl z.symm)];show false=(bj n&&(aN k&&(ms.all aN&&decide (ms.length=m))));rw [decide_eq_false hl,gj,gj,gj]))
theorem ajM(us:List (List Nat))(m:Nat):wA "move" (Rc us) m=match us with | [f,t,k]=>bj f&&(bj t&&aN k) | _=>false:=(by apply aj:aa (by
 rw [mF (show forms.lookup ("move":Str)=some (["name","name","numeral"]:List Str) by decide+kernel)];have e:want (Rc us).length m ["name","name","numeral"]=(["name","name","numeral"]:List Str):=by
  show iD _ _ _++(iD _ _ _++(iD _ _ _++[]))=_;rw [Tg,adz];rfl
 rw [e]
 match us with
 |[]=>rfl
 |[_]=>rfl
 |[_,_]=>rfl
 |[f,t,k]=>
  show (true&&(ju (f.map sg) "name"&&(ju (t.map sg) "name"&&(ju (k.map sg) "numeral"&&true))))=_;rw [yc,yc,Nq,dF,dJ]
 |_::_::_::_::l=>
  rw [decide_eq_false]
  ·rfl
  ·rw [ao];simp))
theorem ajJ(us:List (List Nat))(m:Nat):wA "ship" (Rc us) m=match us with | f::t::k::ms=>bj f&&(bj t&&(aN k&&(ms.all aN&&decide (ms.length=m)))) | _=>false:=(by apply aj:aa (by
 rw [mF (show forms.lookup ("ship":Str)=some (["name","name","numeral","each metal"]:List Str) by decide+kernel)];have e:want (Rc us).length m ["name","name","numeral","each metal"]=("name"::"name"::"numeral"::bx m "numeral":List Str):=by
  show iD _ _ _++(iD _ _ _++(iD _ _ _++(iD _ _ _++[])))=_;rw [Tg,adz,akO,iw];rfl
 rw [e]
 match us with
 |[]=>rw [decide_eq_false (by simp)];rfl
 |[_]=>rw [decide_eq_false (by simp)];rfl
 |[_,_]=>rw [decide_eq_false (by simp)];rfl
 |f::t::k::ms=>
  by_cases hl:ms.length=m
  ·subst hl;rw [decide_eq_true (by simp)];show (true&&(ju (f.map sg) "name"&&(ju (t.map sg) "name"&&(ju (k.map sg) "numeral"&&(bM ju (Rc ms) (bx ms.length ("numeral":Str))).all id))))=(bj f&&(bj t&&(aN k&&(ms.all aN&&decide (ms.length=ms.length)))));rw [QZ,yc,yc,Nq,decide_eq_true rfl,dF,dJ]
  ·rw [decide_eq_false (by simp;exact λz=>hl z.symm)];show false=(bj f&&(bj t&&(aN k&&(ms.all aN&&decide (ms.length=m)))));rw [decide_eq_false hl,gj,gj,gj,gj]))
theorem ajN(us:List (List Nat))(m:Nat):wA "back" (Rc us) m=match us with | [n]=>aN n | _=>false:=(by apply aj:aa (by
 rw [mF (show forms.lookup ("back":Str)=some (["numeral"]:List Str) by decide+kernel)];have e:want (Rc us).length m ["numeral"]=(["numeral"]:List Str):=by
  show iD _ _ _++[]=_;rw [adz];rfl
 rw [e]
 match us with
 |[]=>rfl
 |[n]=>
  show (true&&(ju (n.map sg) "numeral"&&true))=_;rw [Nq,dF,dJ]
 |_::_::l=>
  rw [decide_eq_false]
  ·rfl
  ·rw [ao];simp))
theorem agG(us:List (List Nat))(m:Nat):wA "close" (Rc us) m=us.isEmpty:=by
 rw [mF (show forms.lookup ("close":Str)=some ([]:List Str) by decide+kernel)]
 match us with
 |[]=>rfl
 |_::l=>
  rw [decide_eq_false]
  ·rfl
  ·rw [ao];simp [want]
theorem ajL(us:List (List Nat))(m:Nat):wA "note" (Rc us) m=true:=by
 rw [mF (show forms.lookup ("note":Str)=some (["anything"]:List Str) by decide+kernel)];have e:want (Rc us).length m ["anything"]=(bx us.length "anything":List Str):=by
  show iD _ _ _++[]=_;rw [w_any,iw,ao]
 rw [e,adw,decide_eq_true (by simp)];rfl
theorem agD(us:List (List Nat))(m:Nat):wA "scale" (Rc us) m=(!us.isEmpty&&(us.all aN&&decide (us.length%2=0))):=(by apply aj:aa (by
 rw [mF (show forms.lookup ("scale":Str)=some (["pairs"]:List Str) by decide+kernel)];have e:want (Rc us).length m ["pairs"]=(bx (max 2 (us.length+us.length%2)) "numeral":List Str):=by
  show iD _ _ _++[]=_;rw [amD,iw,ao]
 rw [e,mD,ao];by_cases h0:us=[]
 ·subst h0;rfl
 ·have hl:0<us.length:=S8.mpr h0;have h1:us.isEmpty=false:=by cases us with | nil=>exact absurd rfl h0 | cons _ _=>rfl
  rw [h1,gn,dJ];by_cases h2:us.length%2=0
  ·have e2:max 2 (us.length+us.length%2)=us.length:=by omega
   rw [e2,decide_eq_true rfl,dJ,QZ,decide_eq_true h2,dF]
  ·rw [decide_eq_false (show ¬max 2 (us.length+us.length%2)=us.length by omega),eO,decide_eq_false h2,gj]))
noncomputable def rankOf (c:Str):Nat:=match ([("user",3),("metal",2),("place",2),("open",2),("back",2),("close",3),("scale",3)]:List (Str×Nat)).lookup c with | some n=>n | none=>1
def Seen(B:aC)(u:dG)(s:String)(us:List (List Nat)):Prop:=
 (s="user"/\ab5 B u us)\/(s="metal"/\Xr B u us)\/(s="place"/\Xq B u us)\/(s="open"/\ab7 B u us)\/(s="move"/\ab9 B u us)\/(s="ship"/\ab6 B u us)\/(s="back"/\aca B u us)\/(s="close"/\Xu B u us)\/
 (s="scale"/\(us≠[]/\us.all aN=true/\us.length%2=0/\3<=u.rank))\/(s="note"/\ab8 B u us)
theorem agL{b:Bool}{r n:Nat}{l:List (Bool×Nat)}{k:aC×Option bK}(h:b=true)(hr:r<n):jA ((b,2)::(decide (n<=r),4)::l) k= .error 4:=by
 rw [h,FZ,decide_eq_false (by omega)];rfl
noncomputable def pD:List String:=["user","metal","place","open","move","ship","back","close","scale","note"]
theorem Ve:∀s∈pD,(bT s).all known=true:=by decide+kernel
theorem KN{c:List Nat}:(∃s∈pD,c=bT s)\/(∀s∈pD,¬c=bT s):=by
 by_cases h:∃s∈pD,c=bT s
 ·exact .inl h
 ·exact .inr λs hs e=>h ⟨s,hs,e⟩
theorem ana{c:List Nat}(h:∀s∈pD,¬c=bT s):forms.lookup (tx (c.map sg))=none:=(by apply aj:aa (by
 have n:∀s∈pD,¬tx (c.map sg)=bA s:=λs hs e=>h s hs ((uO (Ve s hs)).mp e);have e:∀(l:List (Str×List Str)),(∀p∈l,∃s∈pD,p.1=bA s)->l.lookup (tx (c.map sg))=none:=by
  intro l
  induction l with
  |nil=>intro _;rfl
  |cons p r ih=>
   intro hl;obtain ⟨s,hs,es⟩:=hl p (bz ..);rw [iC];have:(tx (c.map sg)==p.1)=false:=beq_eq_false_iff_ne.mpr (by rw [es];exact n s hs);simp only [this];exact ih λq hq=>hl q (aV _ hq)
 refine e forms λp hp=>?_;simp only [forms,bc,bU,or_false] at hp;rcases hp with rfl | rfl | rfl | rfl | rfl | rfl | rfl | rfl | rfl | rfl
 ·exact ⟨"user",by decide,rfl⟩
 ·exact ⟨"metal",by decide,rfl⟩
 ·exact ⟨"place",by decide,rfl⟩
 ·exact ⟨"open",by decide,rfl⟩
 ·exact ⟨"move",by decide,rfl⟩
 ·exact ⟨"ship",by decide,rfl⟩
 ·exact ⟨"back",by decide,rfl⟩
 ·exact ⟨"close",by decide,rfl⟩
 ·exact ⟨"scale",by decide,rfl⟩
 ·exact ⟨"note",by decide,rfl⟩))
theorem Qg{B:aC}{u:dG}{c:List Nat}{us:List (List Nat)}(h:∀s∈pD,¬c=bT s):fL B u (c::us)= .error 2:=(by apply aj:aa (by
 unfold fL;dsimp only;rw [if_neg (h "user" (by decide)),if_neg (h "metal" (by decide)),if_neg (h "place" (by decide)),if_neg (h "open" (by decide)),if_neg (h "move" (by decide)),if_neg (h "ship" (by decide)),if_neg (h "back" (by decide)),if_neg (h "close" (by decide)),if_neg (h "scale" (by decide)),if_neg (h "note" (by decide))]))
theorem amT(B:aC)(u:dG)(c:List Nat)(us:List (List Nat))(m:Nat)(hm:m=B.metals.length)(h1:1<=u.rank):
  (wA (tx (c.map sg)) (Rc us) m=false/\fL B u (c::us)= .error 2)\/
  (wA (tx (c.map sg)) (Rc us) m=true/\((u.rank<rankOf (tx (c.map sg))/\fL B u (c::us)= .error 4)\/(¬u.rank<rankOf (tx (c.map sg))/\∃s∈pD,c=bT s/\tx (c.map sg)=bA s/\Seen B u s us))):=(by apply aj:aa (by
 subst hm;rcases KN (c:=c) with ⟨s,hs,e⟩ | h
 ·subst e;have et:tx ((bT s).map sg)=bA s:=(uO (Ve s hs)).mpr rfl;rw [et];simp only [pD,bc,bU,or_false] at hs;rcases hs with rfl | rfl | rfl | rfl | rfl | rfl | rfl | rfl | rfl | rfl
  ·rw [ajI,RX];have er:rankOf ("user":Str)=3:=by decide+kernel
   rw [er]
   match us with
   |[]=>exact .inl ⟨rfl,rfl⟩
   |[_]=>exact .inl ⟨rfl,rfl⟩
   |_::_::_::_=>exact .inl ⟨rfl,rfl⟩
   |[n,r]=>
    dsimp only;cases hf:(bj n&&aN r) with
    |false=>exact .inl ⟨rfl,rfl⟩
    |true=>
     refine .inr ⟨rfl,?_⟩;by_cases hr:u.rank<3
     ·exact .inl ⟨hr,agL rfl hr⟩
     ·rw [bf] at hf;exact .inr ⟨hr,"user",by decide,rfl,et,.inl ⟨rfl,n,r,rfl,hf.1,hf.2,by omega⟩⟩
  ·rw [agF,NQ];have er:rankOf ("metal":Str)=2:=by decide+kernel
   rw [er]
   match us with
   |[]=>exact .inl ⟨rfl,rfl⟩
   |_::_::_=>exact .inl ⟨rfl,rfl⟩
   |[n]=>
    dsimp only;cases hf:(bj n) with
    |false=>exact .inl ⟨rfl,rfl⟩
    |true=>
     refine .inr ⟨rfl,?_⟩;by_cases hr:u.rank<2
     ·exact .inl ⟨hr,agL rfl hr⟩
     ·skip
      exact .inr ⟨hr,"metal",by decide,rfl,et,.inr (.inl ⟨rfl,n,rfl,hf,by omega⟩)⟩
  ·rw [agE,NP];have er:rankOf ("place":Str)=2:=by decide+kernel
   rw [er]
   match us with
   |[]=>exact .inl ⟨rfl,rfl⟩
   |[_]=>exact .inl ⟨rfl,rfl⟩
   |_::_::_::_=>exact .inl ⟨rfl,rfl⟩
   |[n,k]=>
    dsimp only;cases hf:(bj n&&(uz k).isSome) with
    |false=>exact .inl ⟨rfl,rfl⟩
    |true=>
     refine .inr ⟨rfl,?_⟩;by_cases hr:u.rank<2
     ·exact .inl ⟨hr,agL rfl hr⟩
     ·simp only [bf,decide_eq_true_eq] at hf;exact .inr ⟨hr,"place",by decide,rfl,et,.inr (.inr (.inl ⟨rfl,n,k,rfl,hf.1,hf.2,by omega⟩))⟩
  ·rw [ajK,R0];have er:rankOf ("open":Str)=2:=by decide+kernel
   rw [er]
   match us with
   |[]=>exact .inl ⟨rfl,rfl⟩
   |[_]=>exact .inl ⟨rfl,rfl⟩
   |n::k::ms=>
    dsimp only;cases hf:(bj n&&(aN k&&(ms.all aN&&decide (ms.length=B.metals.length)))) with
    |false=>exact .inl ⟨rfl,rfl⟩
    |true=>
     refine .inr ⟨rfl,?_⟩;by_cases hr:u.rank<2
     ·exact .inl ⟨hr,agL rfl hr⟩
     ·simp only [bf,decide_eq_true_eq] at hf;exact .inr ⟨hr,"open",by decide,rfl,et,.inr (.inr (.inr (.inl ⟨rfl,n,k,ms,rfl,hf.1,hf.2.1,hf.2.2.1,hf.2.2.2,by omega⟩)))⟩
  ·rw [ajM,R1];have er:rankOf ("move":Str)=1:=by decide+kernel
   rw [er]
   match us with
   |[]=>exact .inl ⟨rfl,rfl⟩
   |[_]=>exact .inl ⟨rfl,rfl⟩
   |[_,_]=>exact .inl ⟨rfl,rfl⟩
   |_::_::_::_::_=>exact .inl ⟨rfl,rfl⟩
   |[f,t,k]=>
    dsimp only;cases hf:(bj f&&(bj t&&aN k)) with
    |false=>exact .inl ⟨rfl,rfl⟩
    |true=>
     refine .inr ⟨rfl,?_⟩;by_cases hr:u.rank<1
     ·omega
     ·simp only [bf,decide_eq_true_eq] at hf;exact .inr ⟨hr,"move",by decide,rfl,et,.inr (.inr (.inr (.inr (.inl ⟨rfl,f,t,k,rfl,hf.1,hf.2.1,hf.2.2⟩))))⟩
  ·rw [ajJ,RZ];have er:rankOf ("ship":Str)=1:=by decide+kernel
   rw [er]
   match us with
   |[]=>exact .inl ⟨rfl,rfl⟩
   |[_]=>exact .inl ⟨rfl,rfl⟩
   |[_,_]=>exact .inl ⟨rfl,rfl⟩
   |f::t::k::ms=>
    dsimp only;cases hf:(bj f&&(bj t&&(aN k&&(ms.all aN&&decide (ms.length=B.metals.length))))) with
    |false=>exact .inl ⟨rfl,rfl⟩
    |true=>
     refine .inr ⟨rfl,?_⟩;by_cases hr:u.rank<1
     ·omega
     ·simp only [bf,decide_eq_true_eq] at hf;exact .inr ⟨hr,"ship",by decide,rfl,et,.inr (.inr (.inr (.inr (.inr (.inl ⟨rfl,f,t,k,ms,rfl,hf.1,hf.2.1,hf.2.2.1,hf.2.2.2.1,hf.2.2.2.2⟩)))))⟩
  ·rw [ajN,R3];have er:rankOf ("back":Str)=2:=by decide+kernel
   rw [er]
   match us with
   |[]=>exact .inl ⟨rfl,rfl⟩
   |_::_::_=>exact .inl ⟨rfl,rfl⟩
   |[n]=>
    dsimp only;cases hf:aN n with
    |false=>
     refine .inl ⟨rfl,?_⟩;cases (B.records.getD (au n - 1) {user:=[],code:=1,month:=0,move:=none,back:=true}).move with
     |none=>rfl
     |some m=>rfl
    |true=>
     refine .inr ⟨rfl,?_⟩;by_cases hr:u.rank<2
     ·refine .inl ⟨hr,?_⟩;cases (B.records.getD (au n - 1) {user:=[],code:=1,month:=0,move:=none,back:=true}).move with
      |none=>dsimp only;rw [agL rfl hr];rfl
      |some m=>exact agL rfl hr
     ·exact .inr ⟨hr,"back",by decide,rfl,et,.inr (.inr (.inr (.inr (.inr (.inr (.inl ⟨rfl,n,rfl,hf,by omega⟩))))))⟩
  ·rw [agG,NT];have er:rankOf ("close":Str)=3:=by decide+kernel
   rw [er]
   match us with
   |_::_=>exact .inl ⟨rfl,rfl⟩
   |[]=>
    refine .inr ⟨rfl,?_⟩;by_cases hr:u.rank<3
    ·refine .inl ⟨hr,?_⟩;dsimp only;rw [decide_eq_false (by omega)];rfl
    ·exact .inr ⟨hr,"close",by decide,rfl,et,.inr (.inr (.inr (.inr (.inr (.inr (.inr (.inl ⟨rfl,rfl,by omega⟩)))))))⟩
  ·rw [agD,NK];have er:rankOf ("scale":Str)=3:=by decide+kernel
   rw [er];cases hf:(!us.isEmpty&&(us.all aN&&decide (us.length%2=0))) with
   |false=>exact .inl ⟨rfl,rfl⟩
   |true=>
    refine .inr ⟨rfl,?_⟩;by_cases hr:u.rank<3
    ·exact .inl ⟨hr,agL rfl hr⟩
    ·simp only [bf,decide_eq_true_eq] at hf;exact .inr ⟨hr,"scale",by decide,rfl,et,.inr (.inr (.inr (.inr (.inr (.inr (.inr (.inr (.inl ⟨rfl,by intro z;subst z;exact absurd hf.1 (by decide),hf.2.1,hf.2.2,by omega⟩))))))))⟩
  ·rw [ajL];have er:rankOf ("note":Str)=1:=by decide+kernel
   rw [er];exact .inr ⟨rfl,.inr ⟨by omega,"note",by decide,rfl,et,.inr (.inr (.inr (.inr (.inr (.inr (.inr (.inr (.inr ⟨rfl,trivial⟩))))))))⟩⟩
 ·exact .inl ⟨agH (ana h) _ _,Qg h⟩))
section
variable {P:Program} {w:World} {K:az} {mg:Str->Option Value} {base:Heap} {A:uw}
theorem Xb(c:Nat):sg c<1114112:=by
 unfold sg;by_cases h:known c=true
 ·rw [if_pos h];unfold known lG dj at h;simp only [Cy,bf,decide_eq_true_eq,beq_iff_eq] at h;omega
 ·rw [if_neg h];decide
def wD(u:List Nat):PyData:=.str (tx (u.map sg))
theorem aqv(u:List Nat):(wD u).canLay0=true:=by
 show PyData.strOk (tx (u.map sg))=true;unfold PyData.strOk;rw [Array.all_eq_true'];intro x hx;have:x∈(u.map sg).toArray:=hx;rw [List.mem_toArray,cF] at this;obtain ⟨c,_,rfl⟩:=this;exact decide_eq_true (Xb c)
theorem ahp:∀ws:List (List Nat),iW (ws.map wD)=true
 |[]=>rfl
 |u::ws=>by
  show ((wD u).canLay0&&iW (ws.map wD))=true;rw [aqv,ahp ws];rfl
theorem aaN:∀ws:List (List Nat),gM (ws.map wD)<=1
 |[]=>by show 0<=1;omega
 |u::ws=>by
  show max (wD u).depth (gM (ws.map wD))<=1;have h1:=aaN ws;have h2:(wD u).depth<=1:=by unfold wD;show _<=1;simp [lJ]
  omega
theorem Px(ws:List (List Nat)):mW (.list (ws.map wD))=true:=by
 have h1:(Ai (ws.map wD)).canLay0=true:=by show iW (ws.map wD)=true;exact ahp ws
 have h2:(Ai (ws.map wD)).depth=gM (ws.map wD)+1:=by simp [lJ]
 have h3:=aaN ws;unfold mW;rw [h1,h2,decide_eq_true (by omega)];rfl
theorem ahq{H:Hp}:∀ws:List (List Nat),Ms K H (Q0 ws) (ws.map wD)
 |[]=>.nil
 |u::ws=>.cons (.str _) (ahq ws)
theorem Dp.words{H:Hp}{a:Addr}{ws:List (List Nat)}(h:cY K H a (Q0 ws)):Dp K H (.ref a) (.list (ws.map wD)):=.lst h (ahq ws)
theorem amE{s:String}(h:(bT s).all known=true):wV (bT s)= .str (bA s):=by
 show V.str (tx ((bT s).map sg))=_;rw [(uO h).mpr rfl]
theorem anM(ws:List (List Nat)):iQ (.list (ws.map wD)) (.list [])=ws.isEmpty:=by
 cases ws with
 |nil=>simp [iQ,jx]
 |cons u r=>simp [iQ,jx]
noncomputable def PJ (B:aC):List (List Nat)->Bool
 |[]=>false
 |wd::ws=>if wd=[45] then B.users.isEmpty&&decide (ws.head? =some (bT "user")) else (ir B wd).isSome
inductive abN(A:uw)(vs:List V)(H:Hp)(Q:VK)(E:XK):Prop
 |mk (b a:Addr) (N:Nat) (B:aC) (es:List Nat) (L:Lay) (S:Addr->Prop) (wd:List Nat) (ws:List (List Nat)) (_:vs=[.ref b,.ref a]) (_:bJ A N H b B es L S) (_:H a=some (.lst (Q0 (wd::ws)))) (_:∀H',bh H H'->Q (.bl (PJ B (wd::ws))) H')
theorem acp(T:Txt P w K mg A):fU P w K mg base mU 1 A.Ld A.vD CT (abN A):=(by apply aj:aa (by
 refine T.CG.ok abW (λvs H Q E h=>?_) (λcdv A' outer s H vs Q E hr h=>?_)
 ·obtain ⟨b,a,N,B,es,L,S,wd,ws,rfl,_⟩:=h;rfl
 ·obtain ⟨b,a,N,B,es,L,S,wd,ws,rfl,hB,ha,q⟩:=h;refine ⟨_,(aL (dW (bZ oN (iG fP (pv 1) bG (λ_ _=>rfl)) (bH T.aeE) (cP _)) (aK (bB (aoX (nZ oN (cH wM rfl T.jG bI (aq (aO (pv 0) rfl) aG)) bG (cP _)) (acf (nZ (af4 (ant hr)) (jF lF (pv 1) (gr bG) (gr bG)) (cZ (aq pI aG)) (cP _)))))) b7)
   (aK (bB (aoW (af3 (hu1 hr) (iG fP (pv 1) bG (λ_ _=>rfl)) (aO (pv 0) rfl)))))),?_⟩
  obtain ⟨BV,hb⟩:=hB.bk;walk_at "rd";have hs:cY K H a (Q0 (wd::ws)):=cY.of ha;have e45:=uO (k:=wd) (s:="-") (by decide+kernel);have t45:bT "-"=[45]:=by decide+kernel
  rw [t45] at e45;refine ⟨_,hs,wV wd,fH (j:=0) rfl,rfl,?_⟩;by_cases ZC:wd=[45]
  ·have q:∀H',bh H H'->Q (.bl (B.users.isEmpty&&decide (ws.head? =some (bT "user")))) H':=by
    have e:PJ B (wd::ws)=(B.users.isEmpty&&decide (ws.head? =some (bT "user"))):=by show (if wd=[45] then _ else _)=_;rw [if_pos ZC]
    rw [e] at q;exact q
   rw [if_pos (by show V.str (tx (wd.map sg))=_;rw [e45.mpr ZC])];refine ⟨_,_,_,hb,T.cN,T.jq,_,rfl,_,rfl,_,hB.us,rfl,?_⟩;have el:(jJ B.users).length=B.users.length:=ao ..;rw [el];cases hu:B.users with
   |nil=>
    rw [hu] at q;rw [if_pos (by rfl)];refine ⟨_,hs,λp hp=>⟨by rw [sizeLine_eq];omega,λp2 hp2=>?_⟩⟩;have hpa:a≠p:=λz=>by rw [z,hp] at ha;cases ha
    have e1:ym (Q0 (wd::ws)) (some 1) (some 2)=Q0 (ws.take 1):=by
     have:=Ln (Q0 (wd::ws)) 1 2;show ym (Q0 (wd::ws)) (some ((1:Nat):Int)) (some ((2:Nat):Int))=_;rw [this];show (Q0 ws).take 1=_;rw [<-uA]
    rw [e1];rw [e1] at hp2;have h12:p2≠p:=λz=>by rw [z,aD] at hp2;cases hp2
    have d1:Dp K (upd (upd H p (.lst (Q0 (ws.take 1)))) p2 (.lst [.str "user"])) (.ref p) (.list ((ws.take 1).map wD)):=
     Dp.words (cY.of (by rw [aF (cO h12),aD]))
    have d2:Dp K (upd (upd H p (.lst (Q0 (ws.take 1)))) p2 (.lst [.str "user"])) (.ref p2) (.list ([bT "user"].map wD)):=
     Dp.words (cY.of (by rw [aD];show some (HO.lst [V.str "user"])=some (HO.lst [wV (bT "user")]);rw [amE (by decide+kernel)]))
    refine ⟨_,_,d1,d2,Px _,Px _,?_⟩;have hS:bh H (upd (upd H p (.lst (Q0 (ws.take 1)))) p2 (.lst [.str "user"])):=(bh.new hp).trans (bh.new hp2);have:=q _ hS;have ev:iQ (.list ((ws.take 1).map wD)) (.list ([bT "user"].map wD))=decide (ws.head? =some (bT "user")):=by
     cases ws with
     |nil=>simp [iQ,jx]
     |cons u r=>
      show iQ (.list [wD u]) (.list [wD (bT "user")])=_;simp only [iQ,jx,wD,dF,List.head?_cons,aP.injEq];rw [iy,beq_iff_eq,decide_eq_true_eq];have e:=uO (k:=u) (s:="user") (by decide+kernel);have e2:=(uO (k:=bT "user") (s:="user") (by decide+kernel)).mpr rfl;rw [e2];exact e
    rw [ev];exact this
   |cons x r=>
    rw [hu] at q;rw [if_neg (by simp;omega)];exact q H (bh.refl H)
  ·rw [if_neg (by show ¬V.str (tx (wd.map sg))=_;intro z;exact ZC (e45.mp (V.str.inj z)))];refine ⟨_,hs,wV wd,fH (j:=0) rfl,_,_,_,hb,T.cN,T.jq,_,rfl,_,rfl,_,Et.k (k:=bW (tx (wd.map sg))) hB.us,?_⟩;rw [Gq hB.ok];have:=q H (bh.refl H);have e:PJ B (wd::ws)=(ir B wd).isSome:=by show (if wd=[45] then _ else _)=_;rw [if_neg ZC]
   rw [e] at this;rw [Wq];exact this))
def Xp(B:aC)(u:dG)(us:List (List Nat)):Prop:=us≠[]/\us.all aN=true/\us.length%2=0/\3<=u.rank
theorem ah3{l:List (Bool×Nat)}{k:aC×Option bK}{c:Nat}(h:jA l k= .error c)(hl:∀x∈l,x.2≠3):c≠3:=by
 unfold jA at h;split at h
 ·rename_i x hx;injection h with h
  subst h;exact hl x (Gm hx)
 ·cases h
theorem anC{l:List (Bool×Nat)}{k:aC×Option bK}{c:Nat}(h:(jA l k).bind (λ_=>(.error 11:aaJ))= .error c)(hl:∀x∈l,x.2≠3):c≠3:=by
 cases hq:jA l k with
 |error e=>
  rw [hq] at h;injection h with h
  subst h;exact ah3 hq hl
 |ok e=>
  rw [hq] at h;injection h with h
  subst h;decide
theorem Eb{c:Prop}[Decidable c]{a b:aaJ}{k:Nat}(h:(if c then a else b)= .error k)(ha:a= .error k->k≠3)(hb:b= .error k->k≠3):k≠3:=by
 by_cases q:c
 ·rw [if_pos q] at h;exact ha h
 ·rw [if_neg q] at h;exact hb h
theorem aia{a k:Nat}(h:(.error a:aaJ)= .error k)(ha:a≠3):k≠3:=by
 injection h with h
 rw [<-h];exact ha
theorem ae3{B:aC}{u:dG}{ws:List (List Nat)}{k:Nat}(h:fL B u ws= .error k):k≠3:=(by apply aj:aa (by
 unfold fL at h;cases ws with
 |nil=>exact aia h (by decide)
 |cons c args=>
  refine Eb h (λh=>?_) λh=>Eb h (λh=>?_) λh=>Eb h (λh=>?_) λh=>Eb h (λh=>?_) λh=>Eb h (λh=>?_) λh=>Eb h (λh=>?_) λh=>Eb h (λh=>?_) λh=>
   Eb h (λh=>?_) λh=>Eb h (λh=>?_) λh=>Eb h (λh=>nomatch h) λh=>aia h (by decide)
  all_goals first
   |exact ah3 h (by simp)
   |(split at h
     ·exact ah3 h (by simp)
     ·exact aia h (by decide))
   |(split at h
     ·dsimp only at h;split at h
      ·exact anC h (by simp)
      ·exact ah3 h (by simp)
     ·exact aia h (by decide))))
noncomputable def akQ (u0:Str) (c:Nat) (wd:List Nat):Str:=if c=3\/wd=[] then u0 else tx wd
theorem Q6{u0:Str}{c:Nat}{wd:List Nat}(hc:c≠3)(hw:wd≠[]):tx wd=akQ u0 c wd:=(if_neg λz=>z.elim hc hw).symm
structure wR(A:uw)(N:Nat)(H:Hp)(b:Addr)(es:List Nat)(S:Addr->Prop)(r dx:Addr)(e mo:Nat)(wd:List Nat)(nu:Str)(B':aC)(mv:Option bK)(H':Hp):Prop where
 ex:∃L' S' v un,bJ A (N+1) H' b B' es L' S'/\V5 A H' L' S' v mv/\H' r=some (.ins A.cX dx (nW e mo un 0 false v))/\((mv.isSome=true->un=tx wd)/\un=nu)/\∀x,S' x->S x\/H x=none
 fr:∀x o,H x=some o->¬S x->x≠r->H' x=some o
inductive wZ(K:az)(A:uw)(vs:List V)(H:Hp)(Q:VK)(E:XK):Prop
 |mk (b r a:Addr) (N:Nat) (B:aC) (es:List Nat) (L:Lay) (S:Addr->Prop) (dx:Addr) (e mo:Nat) (u0:Str) (p:List Nat) (_:vs=[.ref b,.ref r,.ref a]) (_:bJ A N H b B es L S) (_:B.records.length<=N) (_:N<=10000) (_:¬S r) (_:H r=some (.ins A.cX dx (nW e mo u0 0 false .non))) (_:cY K H a (bV p)) (_:p.length<=1000) (_:∀H',wR A N H b es S r dx e mo (bL B p).2.1 (akQ u0 (bL B p).1 (bL B p).2.1) (bL B p).2.2.1 (bL B p).2.2.2 H'->Q (.int ((bL B p).1:Int)) H')
theorem U5:∀l:List Nat,(∀w∈Ex 32 l,w.length<=l.length)/\(Ex 32 l).length<=l.length+1
 |[]=>by unfold Ex;simp
 |c::l=>by
  obtain ⟨h1,h2⟩:=U5 l;unfold Ex;split
  ·refine ⟨λw hw=>?_,by simp;omega⟩;rcases bc.mp hw with rfl | hw
   ·simp
   ·have:=h1 w hw;simp;omega
  ·cases hs:Ex 32 l with
   |nil=>exact ⟨λw hw=>by simp at hw;subst hw;simp,by simp⟩
   |cons x t=>
    rw [hs] at h1 h2;refine ⟨λw hw=>?_,by simp at h2⊢;omega⟩;rcases bc.mp hw with rfl | hw
    ·have:=h1 x (bz ..);simp;omega
    ·have:=h1 w (aV _ hw);simp;omega
theorem adx(l:List Nat):(∀w∈fX l,w.length<=l.length)/\(fX l).length<=l.length+1:=by
 obtain ⟨h1,h2⟩:=U5 l;unfold fX;exact ⟨λw hw=>h1 w (vY.mp hw).1,aY (yR ..) h2⟩
theorem wR.stay{N:Nat}{H H':Hp}{b:Addr}{B:aC}{es:List Nat}{L:Lay}{S:Addr->Prop}{r dx:Addr}{e mo:Nat}{wd:List Nat}{un nu:Str}(hB:bJ A N H b B es L S)(hr1:¬S r)(k:∀x o,H x=some o->x≠r->H' x=some o)(h':H' r=some (.ins A.cX dx (nW e mo un 0 false .non)))(hu:un=nu):wR A N H b es S r dx e mo wd nu B none H':=
 ⟨⟨L,S,.non,un,(hB.keep λc o hc h=>k c o h λz=>hr1 (z▸hc)).more,rfl,h',⟨nofun,hu⟩,λx hx=>.inl hx⟩,λx o h _ hx=>k x o h hx⟩
theorem wR.aqu{N:Nat}{H H':Hp}{b:Addr}{es:List Nat}{S1 S:Addr->Prop}{r dx:Addr}{e mo:Nat}{wd:List Nat}{nu:Str}{B':aC}{mv:Option bK}(h:wR A N H b es S1 r dx e mo wd nu B' mv H')(hS:∀x,S1 x->S x):wR A N H b es S r dx e mo wd nu B' mv H':=
 ⟨let ⟨L',S',v,un,h1,h2,h3,h4,h5⟩:=h.ex;⟨L',S',v,un,h1,h2,h3,h4,λx hx=>(h5 x hx).imp (hS x) id⟩,λx o hx hn hr=>h.fr x o hx (λz=>hn (hS x z)) hr⟩
theorem V5.Oz{H:Hp}{L:Lay}{S:Addr->Prop}{v:V}{m:Option bK}(h:V5 A H L S v m):V5 A H L (λx=>S x/\H x≠none) v m:=by
 cases m with
 |none=>exact h
 |some m=>
  obtain ⟨ma,la,e,h1,h2,h3⟩:=h;obtain ⟨dx,sa,ta,e1,_⟩:=h1.ob;exact ⟨ma,la,e,h1,⟨h2,by rw [e1];simp⟩,h3,by rw [h1.am];simp⟩
theorem bJ.Oz{N:Nat}{H:Hp}{b:Addr}{B:aC}{es:List Nat}{L:Lay}{S:Addr->Prop}(h:bJ A N H b B es L S):bJ A N H b B es L (λx=>S x/\H x≠none):=
 {h with
  rat:=λi r a e e1 e2 e3=>by
   obtain ⟨dx,u,v,h1,h2,h3⟩:=h.rat i r a e e1 e2 e3;exact ⟨dx,u,v,h1,h2.Oz,h3⟩
  own:=by
   obtain ⟨dx,hb⟩:=h.bk;obtain ⟨o1,o2,o3,o4,o5,o6,o7,o8⟩:=h.own;refine ⟨⟨o1,by rw [hb];simp⟩,⟨o2,by rw [h.us];simp⟩,⟨o3,by rw [h.me];simp⟩,⟨o4,by rw [h.pl];simp⟩,⟨o5,by rw [h.sc];simp⟩,⟨o6,by rw [h.re];simp⟩,λa ha=>?_,λa ha=>?_⟩
   ·obtain ⟨i,hi,e⟩:=List.getElem_of_mem ha;have hi2:i<B.places.length:=by rw [<-h.yE];exact hi
    have q:=h.pat i _ a.1 a.2 (ak hi2) (by rw [ak hi,e]);obtain ⟨dx,q1⟩:=q.ob;exact ⟨⟨(o7 a ha).1,by rw [q1];simp⟩,(o7 a ha).2,by rw [q.am];simp⟩
   ·obtain ⟨i,hi,e⟩:=List.getElem_of_mem ha;have hi2:i<B.records.length:=by rw [<-h.Cr];exact hi
    have hi3:i<es.length:=by rw [h.esl];exact hi2
    obtain ⟨dx,u,v,q1,_⟩:=h.rat i _ a _ (ak hi2) (by rw [ak hi,e]) (ak hi3);exact ⟨o8 a ha,by rw [q1];simp⟩}
theorem akM{p wd:List Nat}{ws:List (List Nat)}(h:fX p=wd::ws):wd≠[]:=by
 have hm:wd∈fX p:=by rw [h];exact bz
 unfold fX at hm;intro z;have:=(vY.mp hm).2;rw [z] at this;cases this
theorem Vb{B:aC}{p:List Nat}(h:fX p=[]):bL B p=(2,[],B,none):=by unfold bL;rw [h]
theorem Va{B:aC}{p wd:List Nat}{ws:List (List Nat)}(h:fX p=wd::ws)(hs:PJ B (wd::ws)=false):bL B p=(3,wd,B,none):=(by apply aj:aa (by
 unfold bL;rw [h];dsimp only;have hs:(if wd=[45] then B.users.isEmpty&&decide (ws.head? =some (bT "user")) else (ir B wd).isSome)=false:=hs;by_cases ZC:wd=[45]
 ·rw [if_pos ZC] at hs;rw [if_pos ZC,if_neg];rintro ⟨z1,z2⟩;rw [z1,z2,decide_eq_true rfl] at hs;cases hs
 ·rw [if_neg ZC] at hs;rw [if_neg ZC];cases hu:ir B wd with
  |none=>rfl
  |some u=>rw [hu] at hs;cases hs))
theorem ahz{N:Nat}{B:aC}{p wd:List Nat}{ws:List (List Nat)}(ok:BOk N B)(h:fX p=wd::ws)(hs:PJ B (wd::ws)=true):
  ∃u:dG,u.name=wd/\wd.map sg=wd/\1<=u.rank/\(m7 (jJ B.users) (bW (tx (wd.map sg)))).getD (.int 3)= .int (u.rank:Int)/\
   bL B p=match fL B u ws with | .error k=>(k,wd,B,none) | .ok x=>(0,wd,x.1,x.2):=(by apply aj:aa (by
 have hs:(if wd=[45] then B.users.isEmpty&&decide (ws.head? =some (bT "user")) else (ir B wd).isSome)=true:=hs;unfold bL;rw [h];dsimp only;rw [Gq ok];by_cases ZC:wd=[45]
 ·rw [if_pos ZC] at hs;rw [bf,decide_eq_true_eq] at hs;refine ⟨{name:=[45],rank:=3},ZC.symm,by rw [ZC];rfl,by decide,?_,?_⟩
  ·have:B.users=[]:=zc.mp hs.1;unfold ir;rw [this];rfl
  ·rw [if_pos ZC,if_pos hs];rfl
 ·rw [if_neg ZC] at hs;cases hu:ir B wd with
  |none=>rw [hu] at hs;cases hs
  |some u=>
   have hm:=Gm hu;have hn:u.name=wd:=by have:=List.find?_some hu;simpa using this
   refine ⟨u,hn,?_,(ok.ur u hm).1,rfl,?_⟩
   ·rw [<-hn];exact um (oA (ok.un u hm))
   ·rw [if_neg ZC];rfl))
noncomputable def apA:V->V
 |.str z=>if aN z.cps.toList=true then .int (au z.cps.toList:Int) else .str z
 |v=>v
theorem al9(u:List Nat):apA (wV u)=Oj u:=by
 show (if aN (u.map sg)=true then V.int (au (u.map sg):Int) else V.str (tx (u.map sg)))=Oj u;unfold Oj;rw [Hx];by_cases h:aN u=true
 ·rw [if_pos h,if_pos h,um (O6 h)]
 ·rw [if_neg h,if_neg h]
theorem aeL{u:List Nat}(h:aN u=true):intText? (tx u)=some (au u:Int):=(by apply aj:aa (by
 unfold aN at h;simp only [bf,decide_eq_true_eq,dH] at h;have hd:NumText.AllDigits u:=λc hc=>by
  have:=h.2.2.1 c hc;unfold dj at this;simp only [bf,decide_eq_true_eq] at this;exact this
 have e:=intText_digits (x:=tx u) hd (by intro z;rw [abB] at z;rw [z] at h;exact absurd h.1 (by decide)) (by rw [Th];omega);rw [e,abB];congr 2;unfold NumText.digitsVal au;congr 1;funext n c;omega))
theorem aep{u:List Nat}(h:aN u=true):u.length<=19:=by
 unfold aN at h;simp only [bf,decide_eq_true_eq] at h;exact h.2.1
theorem afI(l:List (Str×Nat))(z:Str):m7 (l.map λp=>((bW p.1:Key),V.int (p.2:Int))) (bW z)=(l.lookup z).map λn=>V.int (n:Int):=(by apply aj:aa (by
 induction l with
 |nil=>rfl
 |cons p r ih=>
  rw [bu,iC];by_cases h:p.1=z
  ·rw [xT (p:=((bW p.1:Key),V.int (p.2:Int))) (by rw [h])];have:(z==p.1)=true:=beq_iff_eq.mpr h.symm;simp only [this];rfl
  ·rw [xU (p:=((bW p.1:Key),V.int (p.2:Int))) (λq=>h (QL q)),ih];have:(z==p.1)=false:=beq_eq_false_iff_ne.mpr (cO h);simp only [this]))
noncomputable def ahF:List (Key×V):=[(.inr "user",.int 3),(.inr "metal",.int 2),(.inr "place",.int 2),(.inr "open",.int 2),(.inr "back",.int 2),(.inr "close",.int 3),(.inr "scale",.int 3)]
theorem afY(z:Str):(m7 ahF (bW z)).getD (V.int 1)=V.int ((rankOf z:Nat):Int):=(by apply aj:aa (by
 have e:=afI ([("user",3),("metal",2),("place",2),("open",2),("back",2),("close",3),("scale",3)]:List (Str×Nat)) z;have e2:m7 ahF (bW z)=(([("user",3),("metal",2),("place",2),("open",2),("back",2),("close",3),("scale",3)]:List (Str×Nat)).lookup z).map λn=>V.int (n:Int):=e;rw [e2];unfold rankOf;cases ([("user",3),("metal",2),("place",2),("open",2),("back",2),("close",3),("scale",3)]:List (Str×Nat)).lookup z<;>rfl))
theorem xF(T:Txt P w K mg A)(ag5:fU P w K mg base mU 1 A.BK A.uq Bj (Jp A "scale" Xp)):fU P w K mg base mU 5 A.qU A.lg oh (wZ K A):=(by apply aj:aa (by
 have ag3:=aeh (base:=base) T;have afe:=acp (base:=base) T;have adg:=aam (base:=base) T;have Jc:=O4 (base:=base) T;refine T.zp.ok pF (λvs H Q E h=>?_) (λcdv A' outer s H vs Q E hr h=>?_)
 ·obtain ⟨b,r,a,N,B,es,L,S,dx,e,mo,u0,p,rfl,_⟩:=h;rfl
 ·obtain ⟨b,r,a,N,B,es,L,S,dx,e,mo,u0,p,rfl,hB,hN,hN2,hr1,hr2,ha,hp,q⟩:=h;refine ⟨_,(bw (lL 3 pF.nd (cJ ag3 (hr.mono (by decide)) rfl T.agy T.Gr.kp T.Qu .nil dz (aq (pv 2) aG)))),?_⟩;have hB':=hB.Oz;have apl:¬(λx=>S x/\H x≠none) r:=λz=>hr1 z.1;have q':=λ(H':Hp) (h:wR A N H b es (λx=>S x/\H x≠none) r dx e mo (bL B p).2.1 (akQ u0 (bL B p).1 (bL B p).2.1) (bL B p).2.2.1 (bL B p).2.2.2 H')=>q H' (h.aqu λx z=>z.1);have hal:∀x,(λx=>S x/\H x≠none) x->H x≠none:=λx z=>z.2;clear hB hr1 q;generalize (λx=>S x/\H x≠none)=S0 at hB' apl q' hal;clear S;have ⟨S,hS0⟩:∃S,S=S0:=⟨_,rfl⟩;subst hS0;have hB:=hB';have hr1:=apl;have q:=q';clear hB' apl q';obtain ⟨BV,hb⟩:=hB.bk;walk_at "rd";refine ⟨a,p,rfl,ha,by omega,λD H1 hD hS1 hH1=>?_⟩;refine cz (bw (dW (bZ (af4 (ant hr)) (pv 3) (cZ aG) (cP _)) (aK (bB (bH T.Rx))) b7)) ?_;walk_at "rd";refine ⟨by omega,λp2 hp2=>?_⟩;have hDp:D≠p2:=λz=>by rw [z,hp2] at hH1;cases hH1
  have hS2:bh H (upd H1 p2 (.lst [])):=hS1.trans (bh.new hp2);have hH2:(upd H1 p2 (.lst [])) D=some (.lst (Q0 (fX p))):=by rw [aF hDp];exact hH1
  refine ⟨_,_,Dp.words (cY.of hH2),.lst (cY.of aD) .nil,Px _,by rfl,_,rfl,?_⟩;rw [anM];revert hH2 hS2;generalize (upd H1 p2 (.lst []))=H2;intro hS2 hH2;cases hW:fX p with
  |nil=>
   rw [if_pos (show ([]:List (List Nat)).isEmpty=true from rfl)];rw [Vb hW] at q;exact q H2 (wR.stay hB hr1 (λx o h _=>hS2 x o h) (hS2 _ _ hr2) (if_pos (.inr rfl)).symm)
  |cons wd ws=>
   rw [if_neg (by intro z;cases z)];rw [hW] at hH2;refine cz (bw (dW (kO (lN (cJ afe (hr.mono (by decide)) rfl T.aeU T.CG.kp T.Lx .nil dz (aq (pv 0) (aq (pv 3) aG))))) (aK (bB (bH T.ajr))) b7)) ?_;walk_at "rd";refine ⟨b,D,N,B,es,L,S,wd,ws,rfl,hB.same hS2,hH2,λH3 art=>⟨_,rfl,?_⟩⟩;have hS3:bh H H3:=hS2.trans art;have hH3:=art _ _ hH2;cases hsp:PJ B (wd::ws) with
   |false=>
    rw [if_pos rfl];rw [Va hW hsp] at q;exact q H3 (wR.stay hB hr1 (λx o h _=>hS3 x o h) (hS3 _ _ hr2) (if_pos (.inl rfl)).symm)
   |true=>
    rw [if_neg (by intro z;cases z)];obtain ⟨u,hq1,hu2,hu3,hu4,hu5⟩:=ahz hB.ok hW hsp;rw [hu5] at q;have hwd:wd≠[]:=akM hW;have hDr:D≠r:=λz=>by rw [z,hr2] at hD;cases hD
    refine cz (bw (gB (pv 1) (iG fP (pv 3) bG (λ_ _=>rfl)) rfl)) ?_;walk_at "rd";refine ⟨_,cY.of hH3,wV wd,fH (j:=0) rfl,_,_,_,hS3 _ _ hr2,T.dg,T.qi,by show 6<1000;decide,?_⟩;have ep:dU (bA "user") (wV wd) (nW e mo u0 0 false .non)=nW e mo (tx wd) 0 false .non:=by
     show _=nW e mo (tx wd) 0 false .non;rw [show wV wd=V.str (tx wd) by show V.str (tx (wd.map sg))=_;rw [hu2]];rfl
    rw [ep];have hr4:(upd H3 r (.ins A.cX dx (nW e mo (tx wd) 0 false .non))) r=some (.ins A.cX dx (nW e mo (tx wd) 0 false .non)):=aD;have hS4:∀x o,H x=some o->x≠r->(upd H3 r (.ins A.cX dx (nW e mo (tx wd) 0 false .non))) x=some o:=λx o h hx=>by rw [aF hx];exact hS3 x o h
    have hH4:(upd H3 r (.ins A.cX dx (nW e mo (tx wd) 0 false .non))) D=some (.lst (Q0 (wd::ws))):=by rw [aF hDr];exact hH3
    revert hr4 hS4 hH4;generalize (upd H3 r (.ins A.cX dx (nW e mo (tx wd) 0 false .non)))=H4;intro hr4 hS4 hH4;refine cz (bw (dW (PW.pt (pw_or (bZ Kv (cH cW rfl T.jG bI (aq (pv 3) aG)) bG (cP _)) (pw_or1 (kO (lN (cJ adg (hr.mono (by decide)) rfl T.acK T.zm.kp T.Ik .nil dz (aq (iG fP (pv 3) bG (λ_ _=>rfl)) (aq (jF lF (pv 3) (gr bG) pM) (aq (cH cW rfl T.jG bI (aq (aO (pv 0) rfl) aG)) aG))))))))) (aK (bB (bH T.Rx))) b7)) ?_;walk_at "rd";refine ⟨_,.inl (cY.of hH4),?_⟩;cases ws with
    |nil=>
     rw [if_pos (by simp)];exact q H4 (wR.stay hB hr1 hS4 hr4 (Q6 (c:=2) (by decide) hwd))
    |cons c us=>
     rw [if_neg (by simp;omega)];refine ⟨_,cY.of hH4,wV c,fH (j:=1) rfl,_,cY.of hH4,λp5 hp5=>?_⟩;have e5:ym (Q0 (wd::c::us)) (some 2) none=Q0 us:=Uj (Q0 (wd::c::us)) 2;rw [e5];have hB4:bJ A N H4 b B es L S:=hB.keep λx o hx h=>hS4 x o h λz=>hr1 (z▸hx);have hS5:bh H4 (upd H4 p5 (.lst (Q0 us))):=bh.new hp5;have hH5:(upd H4 p5 (.lst (Q0 us))) p5=some (.lst (Q0 us)):=aD;revert hS5 hH5;generalize (upd H4 p5 (.lst (Q0 us)))=H5;intro hS5 hH5;have hB5:=hB4.same hS5;obtain ⟨dx5,hb5⟩:=hB5.bk;obtain ⟨hw1,hw2⟩:=adx p;rw [hW] at hw1 hw2;have hul:us.length<=1000:=by simp at hw2;omega
     have huw:∀x∈us,x.length<=1000:=λx hx=>aY (hw1 x (aV _ (aV _ hx))) hp;have hme:B.metals.length<=2:=hB.ok.me;have eus:Q0 us=usV (Rc us):=by unfold usV;rw [cG];rfl
     refine ⟨_,_,_,hb5,T.cN,T.jt,_,rfl,_,rfl,_,.inl (cY.of hB5.me),?_⟩;rw [ao];refine ⟨tx (c.map sg),p5,Rc us,B.metals.length,rfl,cY.of (by rw [<-eus];exact hH5),by rw [ao];omega,?_,by omega,λH6 hS6=>⟨_,rfl,?_⟩⟩
     ·intro x hx;obtain ⟨y,hy,rfl⟩:=cF.mp hx;rw [ao];have:=huw y hy;omega
     have SN:=hB5.same hS6;have hk6:∀x o,H x=some o->x≠r->H6 x=some o:=λx o h hx=>hS6 x o (hS5 x o (hS4 x o h hx));have hr6:=hS6 _ _ (hS5 _ _ hr4);have hD6:=hS6 _ _ (hS5 _ _ hH4);rcases amT B u c us _ rfl hu3 with ⟨f1,f2⟩ | ⟨f1,f2⟩
     ·rw [f1,if_pos rfl];rw [f2] at q;exact q H6 (wR.stay hB hr1 hk6 hr6 (Q6 (c:=2) (by decide) hwd))
     ·rw [f1,if_neg (by intro z;cases z)];obtain ⟨dx6,hb6⟩:=SN.bk;refine cz (bw (lL 4 pF.nd (aec (hu1 hr) (aO (pv 0) rfl) (iG fP (pv 3) bG (λ_ _=>rfl)) (bH T.Yj) ⟨rfl,rfl,rfl,rfl⟩))) ?_;walk_at "rd";refine ⟨_,_,_,hb6,T.cN,T.jq,_,rfl,_,rfl,?_⟩;refine ⟨.inl ⟨_,.inl SN.us⟩,_,cY.of hD6,wV wd,fH (j:=0) rfl,_,Et.k (k:=bW (tx (wd.map sg))) SN.us,?_⟩;refine cz (bw (dW (bZ Kv (pv 4) (alf (bH T.anp) (iG fP (pv 3) bG (λ_ _=>rfl)) bG ⟨rfl,rfl,rfl,rfl⟩) (cP _)) (aK (bB (bH T.ags))) b7)) ?_;walk_at "rd";refine ⟨_,T.anN,_,cY.of hD6,wV c,fH (j:=1) rfl,bW (tx (c.map sg)),rfl,_,hu4,_,afY _,?_⟩;rcases f2 with ⟨f3,f4⟩ | ⟨f3,sn,hsn,f4,f5,f6⟩
      ·rw [if_pos (by omega)];rw [f4] at q;exact q H6 (wR.stay hB hr1 hk6 hr6 (Q6 (c:=4) (by decide) hwd))
      ·rw [if_neg (by omega)];refine cz (bw (Kr (i:=5) rfl pF.nd rfl rfl (Q8 rfl rfl rfl (by decide+kernel)) (uU (jF lF (pv 3) (gr bG) pM)) (iJ (N:=Ss) (sc:=aX zB) (own:=[("word",6)]) (by decide+kernel)) (λ_ _ _ _ _=>(eZ (i:=6) pF.nd rfl (dZ rfl) (hf:=gF rfl))) (λ_ _ _ _ _=>kJ) (λ_ _ _ _ _=>(xX (lN (cJ Jc (hr.mono (by decide)) rfl T.RQ T.uG.kp T.zZ .nil dz (aq (pv 6) aG))) (TX acX rfl T.aq1 boot_int (aq (pv 6) aG)) (pv 6))))) ?_;walk_at "rd";refine ⟨2,rfl,D,_,rfl,cY.of hD6,λp7 hp7=>?_⟩;rw [e5];have hS7:bh H6 (upd H6 p7 (.lst (Q0 us))):=bh.new hp7;have hH7:(upd H6 p7 (.lst (Q0 us))) p7=some (.lst (Q0 us)):=aD;revert hS7 hH7;generalize (upd H6 p7 (.lst (Q0 us)))=H7;intro hS7 hH7;refine ⟨p7,rfl,⟨_,cY.of hH7⟩,FJ apA (cY.of hH7) (by rw [ao];exact aY hul (by decide)) ?_ ?_⟩
       ·intro i y H8 R hy s8 h;rw [aW] at hy;cases hx:us[i]? with
        |none=>rw [hx] at hy;cases hy
        |some x=>
         rw [hx] at hy;obtain rfl:wV x=y:=aB hy;have hxl:=huw x (aM hx);walk_at "rd";refine ⟨x.map sg,rfl,by rw [ao];omega,λH9 s9=>⟨_,rfl,?_⟩⟩;rw [Hx];have h:=h H9 s9;rw [al9] at h;by_cases hn:aN x=true
         ·rw [if_pos hn];rw [yo hn] at h;have hl:=aep hn;exact ⟨_,by rw [um (O6 hn)];exact aeL hn,by rw [Th,ao];omega,h⟩
         ·rw [if_neg hn];unfold Oj at h;rw [if_neg hn] at h;exact h
       ·intro D8 H8 hD8 s8 h8;have hk8:∀x o,H x=some o->x≠r->H8 x=some o:=λx o h hx=>s8 x o (hS7 x o (hk6 x o h hx));have hr8:=s8 _ _ (hS7 _ _ hr6);have hDD:=s8 _ _ (hS7 _ _ hD6);have hB8:=(SN.same hS7).same s8;have ea:(Q0 us).map apA=us.map Oj:=by
         rw [cG];exact gm λx _=>al9 x
        rw [ea] at h8;have hn8:∀x,H7 x=none->H x=none:=λx hx=>by
         cases hh:H x with
         |none=>rfl
         |some o=>
          by_cases hxr:x=r
          ·have:=hS7 _ _ hr6;rw [<-hxr,hx] at this;cases this
          ·have:=hS7 _ _ (hk6 x o hh hxr);rw [hx] at this;cases this
        have hSD:¬S D8:=λz=>hal D8 z (hn8 D8 hD8);refine cz (aL (lL 7 pF.nd (ahK (bH T.agt) (iG fP (pv 3) bG (λ_ _=>rfl)) (λ_ _=>rfl)))
   (aK (bB (XF (n:=7) (k:=4) (hr.mono (by decide)) rfl (by first | exact dZ rfl | exact gF (dZ rfl)) (aq (pv 0) (aq (pv 1) (aq (pv 5) aG))))))) ?_;walk_at "rd"
        refine ⟨_,cY.of hDD,wV c,fH (j:=1) rfl,_,T.agN,bW (tx (c.map sg)),rfl,?_⟩;rw [f5];rw [<-hq1] at hr8;rw [f4] at q
        suffices hf:∃f Pre,m7 _ (bW (bA sn))=some (V.ref f)/\anW P w K mg base 4 f (Jp A sn Pre)/\Pre B u us by
         obtain ⟨f,Pre,h1,h2,h3⟩:=hf;refine ⟨_,h1,f,rfl,_,h2,b,r,D8,N,B,es,L,S,dx,e,mo,u,us,rfl,hB8,hN,hN2,hr1,hr8,hSD,h8,by omega,λx hx=>aY (huw x hx) (by omega),h3,?_⟩;cases hc:fL B u (bT sn::us) with
         |error k=>
          rw [hc] at q;intro H' hs';exact q H' (wR.stay hB hr1 (λx o h hx=>hs' x o (hk8 x o h hx)) (hs' _ _ hr8) (by rw [hq1];exact Q6 (ae3 hc) hwd))
         |ok x=>
          rw [hc] at q;intro H' hA;obtain ⟨L',S',v,g1,g2,g3,g4⟩:=hA.ex;refine q H' ⟨⟨L',S',v,tx u.name,g1,g2,g3,⟨λ_=>by rw [hq1],by rw [hq1];exact Q6 (c:=0) (by decide) hwd⟩,λx hx=>?_⟩,λx o h1 h2 h3=>hA.fr x o (hk8 x o h1 h3) h2 h3⟩;rcases g4 x hx with g | g | g
          ·exact .inl g
          ·refine .inr (hn8 x ?_);cases hh:H7 x with
           |none=>rfl
           |some o=>have:=s8 x o hh;rw [g] at this;cases this
          ·rw [g];exact .inr (hn8 D8 hD8)
        rcases f6 with ⟨rfl,f6⟩ | ⟨rfl,f6⟩ | ⟨rfl,f6⟩ | ⟨rfl,f6⟩ | ⟨rfl,f6⟩ | ⟨rfl,f6⟩ | ⟨rfl,f6⟩ | ⟨rfl,f6⟩ | ⟨rfl,f6⟩ | ⟨rfl,f6⟩
        ·exact ⟨_,ab5,rfl,⟨T.Mw.kp,_,_,(af7 T).mono (by decide),T.Ur⟩,f6⟩
        ·exact ⟨_,Xr,rfl,⟨T.Gw.kp,_,_,(ael T).mono (by decide),T.Qy⟩,f6⟩
        ·exact ⟨_,Xq,rfl,⟨T.Gv.kp,_,_,(aek T).mono (by decide),T.Qx⟩,f6⟩
        ·exact ⟨_,ab7,rfl,⟨T.zq.kp,_,_,(aan T).mono (by decide),T.Im⟩,f6⟩
        ·exact ⟨_,ab9,rfl,⟨T.Mz.kp,_,_,(aga T).mono (by decide),T.Uu⟩,f6⟩
        ·exact ⟨_,ab6,rfl,⟨T.Mx.kp,_,_,(af8 T).mono (by decide),T.Us⟩,f6⟩
        ·exact ⟨_,aca,rfl,⟨T.MF.kp,_,_,(agb T).mono (by decide),T.Uv⟩,f6⟩
        ·exact ⟨_,Xu,rfl,⟨T.Gx.kp,_,_,(aem T).mono (by decide),T.Qz⟩,f6⟩
        ·exact ⟨_,Xp,rfl,⟨T.Gu.kp,_,_,ag5.mono (by decide),T.Qw⟩,f6⟩
        ·exact ⟨_,ab8,rfl,⟨T.My.kp,_,_,(af9 T).mono (by decide),T.Ut⟩,f6⟩))
end
end
section
open Vbmiam in
theorem JP {l : List (Bool × Nat)} {k x : Books × Option Move} (h : guarded l k = .ok x) : x = k /\ ∀ y ∈ l, y.1 = true := by
  unfold guarded at h; cases hf : l.find? fun x => !x.1 with
  | some y => rw [hf] at h; cases h
  | none =>
    rw [hf] at h; refine ⟨(Except.ok.inj h).symm, fun y hy => ?_⟩; have := List.find?_eq_none.mp hf y hy; simpa using this
def sU(B:aC)(m:bK):Prop:=m.from_<B.places.length/\m.to_<B.places.length/\m.from_≠m.to_/\m.metals.length=B.metals.length/\m.kg<=eY
theorem aex(B:aC)(m:bK):(Dt B m).places.length=B.places.length:=by
 unfold Dt;show ((B.places.modify _ _).modify _ _).length=_;rw [List.length_modify,List.length_modify]
theorem sU.moved{B:aC}{m:bK}(h:sU B m):sU (Dt B m) m:=by
 obtain ⟨h1,h2,h3,h4,h5⟩:=h;exact ⟨by rw [aex];exact h1,by rw [aex];exact h2,h3,h4,h5⟩
theorem place_lt{B:aC}{n:List Nat}(h:(dM B n).isSome=true):(dM B n).getD 0<B.places.length/\B.places[(dM B n).getD 0]? =some (jV B ((dM B n).getD 0)):=by
 cases e:dM B n with
 |none=>rw [e] at h;cases h
 |some i=>
  obtain ⟨p,h1,h2,_⟩:=Qe e;show i<_/\B.places[i]? =some (jV B i);rw [h2];exact ⟨(aQ.mp h1).1,h1⟩
theorem RW{N:Nat}{B B':aC}{u:dG}{c:List Nat}{us:List (List Nat)}{m:bK}(ok:BOk N B)(h:fL B u (c::us)= .ok (B',some m)):sU B' m/\c≠bT "user":=(by apply aj:aa (by
 rcases KN (c:=c) with ⟨s,hs,e⟩ | hno
 ·subst e;simp only [pD,bc,bU,or_false] at hs;rcases hs with rfl | rfl | rfl | rfl | rfl | rfl | rfl | rfl | rfl | rfl
  ·rw [RX] at h
   match us with
   |[]=>cases h
   |[_]=>cases h
   |_::_::_::_=>cases h
   |[n,r]=>cases (JP h).1
  ·rw [NQ] at h
   match us with
   |[]=>cases h
   |_::_::_=>cases h
   |[n]=>cases (JP h).1
  ·rw [NP] at h
   match us with
   |[]=>cases h
   |[_]=>cases h
   |_::_::_::_=>cases h
   |[n,r]=>cases (JP h).1
  ·rw [R0] at h
   match us with
   |[]=>cases h
   |[_]=>cases h
   |n::k::ms=>cases (JP h).1
  ·refine ⟨?_,by decide+kernel⟩;rw [R1] at h
   match us with
   |[]=>cases h
   |[_]=>cases h
   |[_,_]=>cases h
   |_::_::_::_::_=>cases h
   |[f,t,k]=>
    obtain ⟨h1,h2⟩:=JP h;simp only [bc,bU,or_false,forall_eq_or_imp,forall_eq,bf,decide_eq_true_eq,bne_iff_ne] at h2;obtain ⟨_,⟨i1,i2⟩,⟨i3,_⟩,i4,_⟩:=h2;have h3:=eV h1;rw [h3.1,aB h3.2];refine sU.moved ⟨(place_lt i1).1,(place_lt i2).1,i3,?_,i4.2⟩;show (lR _ _).length=_;unfold lR;rw [ao];exact ok.pm _ (aM (place_lt i1).2)
  ·refine ⟨?_,by decide+kernel⟩;rw [RZ] at h
   match us with
   |[]=>cases h
   |[_]=>cases h
   |[_,_]=>cases h
   |f::t::k::ms=>
    obtain ⟨h1,h2⟩:=JP h;simp only [bc,bU,or_false,forall_eq_or_imp,forall_eq,bf,decide_eq_true_eq,bne_iff_ne] at h2;obtain ⟨⟨_,_,_,_,i0⟩,⟨i1,i2⟩,i3,⟨i4,_⟩,_⟩:=h2;have h3:=eV h1;rw [h3.1,aB h3.2];refine sU.moved ⟨(place_lt i1).1,(place_lt i2).1,?_,by show (ms.map _).length=_;rw [ao];exact i0,i4.2⟩;intro z;have z:(dM B f).getD 0=(dM B t).getD 0:=z;rw [z] at i3;revert i3;cases (jV B ((dM B t).getD 0)).kind<;>decide
  ·refine ⟨?_,by decide+kernel⟩;rw [R3] at h
   match us with
   |[]=>cases h
   |_::_::_=>cases h
   |[n]=>
    dsimp only at h;cases hm:(B.records.getD (au n - 1) {user:=[],code:=1,month:=0,move:=none,back:=true}).move with
    |none=>
     rw [hm] at h;dsimp only at h;cases hg:jA [(aN n,2),(decide (2<=u.rank),4)] (B,none) with
     |error k=>rw [hg] at h;cases h
     |ok x=>rw [hg] at h;cases h
    |some m0=>
     rw [hm] at h;dsimp only at h;obtain ⟨h1,h2⟩:=JP h;have h3:=eV h1;rw [h3.1,aB h3.2];have hr:∃r∈B.records,r.move=some m0:=by
      rw [cC] at hm;cases hx:B.records[au n - 1]? with
      |none=>rw [hx] at hm;cases hm
      |some r=>rw [hx] at hm;exact ⟨r,aM hx,hm⟩
     obtain ⟨r,hr1,hr2⟩:=hr;obtain ⟨j1,j2,j3,j4,j5,_⟩:=ok.mv r hr1 m0 hr2;exact sU.moved ⟨j2,j1,cO j3,j4,j5⟩
  ·rw [NT] at h
   match us with
   |_::_=>cases h
   |[]=>cases (JP h).1
  ·rw [NK] at h;cases (JP h).1
  ·rw [Y5] at h;cases h
 ·rw [Qg hno] at h;cases h))
theorem acj{N:Nat}{B:aC}{p:List Nat}{m:bK}(ok:BOk N B)(h:(bL B p).2.2.2=some m):sU (bL B p).2.2.1 m/\bj (bL B p).2.1=true:=(by apply aj:aa (by
 unfold bL at h⊢;cases hw:fX p with
 |nil=>rw [hw] at h;cases h
 |cons wd ws=>
  rw [hw] at h;dsimp only at h⊢;by_cases ZC:wd=[45]
  ·rw [if_pos ZC] at h⊢;by_cases h2:B.users.isEmpty=true/\ws.head? =some (bT "user")
   ·rw [if_pos h2] at h
    match ws with
    |[]=>cases h2.2
    |c::us=>
     cases hc:fL B {name:=[45],rank:=3} (c::us) with
     |error k=>rw [hc] at h;cases h
     |ok x=>
      rw [hc] at h;have h:x.2=some m:=h;have:=(RW ok (show fL B _ (c::us)= .ok (x.1,some m) by rw [hc,<-h])).2;exact absurd (aB h2.2) this
   ·rw [if_neg h2] at h;cases h
  ·rw [if_neg ZC] at h⊢;cases hu:ir B wd with
   |none=>rw [hu] at h;cases h
   |some u=>
    rw [hu] at h;dsimp only at h⊢;have hn:u.name=wd:=by have:=List.find?_some hu;simpa using this
    match ws with
    |[]=>cases h
    |c::us=>
     cases hc:fL B u (c::us) with
     |error k=>rw [hc] at h;cases h
     |ok x=>
      rw [hc] at h;have h:x.2=some m:=h;refine ⟨(RW ok (show fL B _ (c::us)= .ok (x.1,some m) by rw [hc,<-h])).1,?_⟩;show bj wd=true;rw [<-hn];exact ok.un u (Gm hu)))
end
section
open PySem PySem.Spec PyProof.Rows
section
variable {P:Program} {w:World} {K:az} {mg:Str->Option Value} {base:Heap} {A:uw}
theorem bJ.agW{N:Nat}{H:Hp}{b:Addr}{B:aC}{es:List Nat}{L:Lay}{S:Addr->Prop}(h:bJ A N H b B es L S):Apart A H b B L L.re where
 ps:=λa ha=>by
  obtain ⟨n,p,⟨dx,e1⟩,e2⟩:=h.wK (a:=a.1) (la:=a.2) ha;exact ⟨dC e1 h.re (by intro z;cases z),(h.Xv a ha).2⟩
 rs:=λa ha=>by
  obtain ⟨e,r,dx,u,v,e1,_⟩:=h.RM ha;exact dC e1 h.re (by intro z;cases z)
 ma:=λma la m q=>by
  obtain ⟨dx,sa,ta,e1,_⟩:=q.ob;exact ⟨dC e1 h.re (by intro z;cases z),q.ne.2⟩
theorem V5.rs{H:Hp}{L:Lay}{S S':Addr->Prop}{v:V}{m:Option bK}{rs:List Addr}(h:V5 A H L S v m)(hS:∀x,S x->S' x):V5 A H {L with rs:=rs} S' v m:=by
 cases m with
 |none=>exact h
 |some m=>
  obtain ⟨ma,la,e,h1,h2,h3⟩:=h;exact ⟨ma,la,e,⟨h1.ob,h1.am,h1.ne⟩,hS _ h2,hS _ h3⟩
theorem V5.aov{H:Hp}{L:Lay}{S:Addr->Prop}{v:V}{m:Option bK}{o:HO}{xs:List V}(h:V5 A H L S v m)(hre:H L.re=some (.lst xs)):V5 A (upd H L.re o) L S v m:=by
 cases m with
 |none=>exact h
 |some m=>
  obtain ⟨ma,la,e,h1,h2,h3⟩:=h;obtain ⟨dx,sa,ta,e1,_⟩:=h1.ob;have n1:ma≠L.re:=dC e1 hre (by intro z;cases z);exact ⟨ma,la,e,h1.keep (λo e=>by rw [aF n1];exact e) (λo e=>by rw [aF h1.ne.2];exact e),h2,h3⟩
theorem bJ.enter{N:Nat}{H:Hp}{b:Addr}{B:aC}{es:List Nat}{L:Lay}{S:Addr->Prop}(h:bJ A N H b B es L S){r dx:Addr}{e mo c:Nat}{un:Str}{v:V}{mv:Option bK}{user:List Nat}(hr:H r=some (.ins A.cX dx (nW e mo un c false v)))(hv:V5 A H L S v mv)(hun:(mv.isSome=true->un=tx user)/\un=Vy c user/\∀c∈un.cps.toList,c<0x110000)(hS:¬S r)(hg:∀m,mv=some m->sU B m/\bj user=true):
  bJ A N (upd H L.re (.lst ((L.rs++[r]).map V.ref))) b {B with records:=B.records++[{user:=user,code:=c,month:=mo,move:=mv,back:=false}]} (es++[e]) {L with rs:=L.rs++[r]} (λx=>S x\/x=r):=(by apply aj:aa (by
 have ap:=h.agW;obtain ⟨BV,hb⟩:=h.bk;have nr:r≠L.re:=dC hr h.re (by intro z;cases z);exact
 {ok:={h.ok with
   mv:=λx hx m hm=>by
    rcases d8.mp hx with q | q
    ·exact h.ok.mv x q m hm
    ·rw [fJ.mp q] at hm⊢;obtain ⟨⟨g1,g2,g3,g4,g5⟩,g6⟩:=hg m hm;exact ⟨g1,g2,g3,g4,g5,g6⟩}
  bk:=⟨BV,by rw [aF (dC hb h.re (by intro z;cases z))];exact hb⟩
  us:=by show upd H L.re _ L.us=_;rw [aF (dC h.us h.re (by intro z;cases z))];exact h.us
  me:=by show upd H L.re _ L.me=_;rw [aF h.ne.2.2.1];exact h.me
  pl:=by show upd H L.re _ L.pl=_;rw [aF (dC h.pl h.re (by intro z;cases z))];exact h.pl
  sc:=by show upd H L.re _ L.sc=_;rw [aF h.ne.2.2.2];exact h.sc
  re:=aD
  yE:=h.yE
  Cr:=by show (L.rs++[r]).length=(B.records++[_]).length;rw [aJ,aJ,h.Cr];rfl
  esl:=by show (es++[e]).length=(B.records++[_]).length;rw [aJ,aJ,h.esl];rfl
  pat:=h.Ku ap
  rat:=λi x a e' e1 e2 e3=>by
   have e1:(B.records++[{user:=user,code:=c,month:=mo,move:=mv,back:=false}])[i]? =some x:=e1;have e2:(L.rs++[r])[i]? =some a:=e2;by_cases hi:i<B.records.length
   ·rw [eG hi] at e1;rw [eG (by rw [h.Cr];exact hi)] at e2;rw [eG (by rw [h.esl];exact hi)] at e3;obtain ⟨dx',u',v',q1,q2,q3⟩:=h.Ko (o:=.lst ((L.rs++[r]).map V.ref)) ap i x a e' e1 e2 e3;exact ⟨dx',u',v',q1,q2.rs λx z=>.inl z,q3⟩
   ·have hi':i=B.records.length:=by
     have:=(aQ.mp e1).1;rw [aJ] at this;simp only [aH,bF] at this;omega
    subst hi';rw [fB (aU _),pQ] at e1;rw [<-h.Cr,fB (aU _),pQ] at e2;rw [<-h.esl,fB (aU _),pQ] at e3;obtain rfl:=aB e1;obtain rfl:=aB e2;obtain rfl:=aB e3;exact ⟨dx,un,v,by rw [aF nr];exact hr,(hv.aov h.re).rs λx z=>.inl z,hun⟩
  Xw:=h.Xw
  Zx:=Nj h.Zx λz=>hS (h.own.2.2.2.2.2.2.2 r z)
  ne:=h.ne
  Xv:=h.Xv
  own:=by
   obtain ⟨o1,o2,o3,o4,o5,o6,o7,o8⟩:=h.own;refine ⟨.inl o1,.inl o2,.inl o3,.inl o4,.inl o5,.inl o6,λa ha=>⟨.inl (o7 a ha).1,.inl (o7 a ha).2⟩,λa ha=>?_⟩;rcases d8.mp ha with q | q
   ·exact .inl (o8 a q)
   ·exact .inr (fJ.mp q)}))
structure gf(A:uw)(N:Nat)(H:Hp)(br:Bool)(j ta b:Addr)(st:cB)(L:Lay)(S:Addr->Prop):Prop where
 ob:∃dx,H j=some (.ins A.dD dx (rP ta (st.journal.length - st.pending.length) br b))
 ha:H ta=some (.lst (bV st.journal))
 pl:st.pending.length<=st.journal.length
 pe:st.pending=st.journal.drop (st.journal.length - st.pending.length)
 bk:bJ A N H b st.books st.ends L S
 nl:st.books.records.length<=N
 nj:¬S j
 nt:¬S ta
noncomputable def codeIn (B:aC) (p:List Nat) (right:Bool):Nat:=if right=false then 1 else (bL B p).1
noncomputable def stepped (st:cB) (p:List Nat) (right:Bool) (rest:List Nat):cB:={st with pending:=rest,ends:=st.ends++[st.journal.length - rest.length],books:=kE st.books p right}
inductive abP(A:uw)(vs:List V)(H:Hp)(Q:VK)(E:XK):Prop
 |mk (j ta b:Addr) (N:Nat) (br:Bool) (st:cB) (L:Lay) (S:Addr->Prop) (p rest:List Nat) (right:Bool) (_:vs=[.ref j,.int ((st.journal.length - rest.length:Nat):Int)]) (_:gf A N H br j ta b st L S) (_:st.journal.length<=10000) (_:N<10000) (_:JH st.pending= .whole p right rest) (_:∀H',(∃L' S',gf A (N+1) H' br j ta b (stepped st p right rest) L' S'/\∀x,S' x->S x\/H x=none)->(∀x o,H x=some o->¬S x->x≠j->H' x=some o)->Q (.int (codeIn st.books p right:Int)) H')
theorem adE(c:Nat)(wd:List Nat):akQ "" c wd=Vy c wd:=by
 unfold akQ Vy;by_cases h1:c=3
 ·rw [if_pos (.inl h1),if_pos h1];rfl
 ·rw [if_neg h1];by_cases h2:wd=[]
  ·rw [if_pos (.inr h2),h2];rfl
  ·rw [if_neg λz=>z.elim h1 h2]
theorem afJ{N:Nat}{B:aC}{p:List Nat}(ok:BOk N B):∀c∈(Vy (bL B p).1 (bL B p).2.1).cps.toList,c<0x110000:=(by apply aj:aa (by
 intro c hc;unfold Vy at hc;by_cases h3:(bL B p).1=3
 ·rw [if_pos h3] at hc;cases hc
 ·rw [if_neg h3,abB] at hc;cases hW:fX p with
  |nil=>
   rw [Vb hW] at hc;cases hc
  |cons wd ws=>
   cases hs:PJ B (wd::ws) with
   |false=>
    rw [Va hW hs] at h3;exact absurd rfl h3
   |true=>
    obtain ⟨u,_,hk,_,_,he⟩:=ahz ok hW hs;have hw:(bL B p).2.1=wd:=by
     rw [he];cases fL B u ws<;>rfl
    rw [hw,<-hk] at hc;obtain ⟨d,_,rfl⟩:=cF.mp hc;exact Xb d))
structure Ready(A:uw)(N:Nat)(H:Hp)(st:cB)(b r dx:Addr)(en:Nat)(S0:Addr->Prop)(p:List Nat)(right:Bool)(H5:Hp)(c:Nat):Prop where
 ex:∃B1 L1 S1 v mv un user,bJ A (N+1) H5 b B1 st.ends L1 S1/\H5 r=some (.ins A.cX dx (nW en st.books.month un 0 false v))/\V5 A H5 L1 S1 v mv/\((mv.isSome=true->un=tx user)/\un=Vy c user/\∀c∈un.cps.toList,c<0x110000)/\¬S1 r/\
  (∀m,mv=some m->sU B1 m/\bj user=true)/\kE st.books p right={B1 with records:=B1.records++[{user:=user,code:=c,month:=st.books.month,move:=mv,back:=false}]}/\
  ∀x,S1 x->S0 x\/H x=none
 co:codeIn st.books p right=c
 fr:∀x o,H x=some o->¬S0 x->H5 x=some o
theorem acr(T:Txt P w K mg A)(vW:fU P w K mg base mU 5 A.qU A.lg oh (wZ K A)):fU P w K mg base mU 6 A.rD A.jT mR (abP A):=(by apply aj:aa (by
 have Mp:=Rp (base:=base) T;have Mm:=TY (base:=base) T;have aaI:=X3 (base:=base) T;refine T.rn.ok jQ (λvs H Q E h=>?_) (λcdv A' outer s H vs Q E hr h=>?_)
 ·obtain ⟨j,ta,b,N,br,st,L,S,p,rest,right,rfl,_⟩:=h;rfl
 ·obtain ⟨j,ta,b,N,br,st,L,S,p,rest,right,rfl,hJ,hl,hN,hw,q⟩:=h;refine ⟨_,(aL (lL 2 jQ.nd (fC DY (pv 1) (bH T.FT)))
   (bw (lL 3 jQ.nd (jF lF (aO (pv 0) rfl) (gr (fC kW (aO (pv 0) rfl) (bH T.FW))) (gr (pv 2)))))),?_⟩
  have hal:∀x,(λx=>S x/\H x≠none) x->H x≠none:=λx z=>z.2;have hB:=hJ.bk.Oz;have nj:¬(λx=>S x/\H x≠none) j:=λz=>hJ.nj z.1;have nt:¬(λx=>S x/\H x≠none) ta:=λz=>hJ.nt z.1;have hS0:∀x,(λx=>S x/\H x≠none) x->S x:=λx z=>z.1;generalize (λx=>S x/\H x≠none)=S0 at hal hB nj nt hS0;obtain ⟨Oi,hj⟩:=hJ.ob;have RJ:=hJ.ha;have hpl:=hJ.pl;have hpe:=hJ.pe;have hnl:=hJ.nl;obtain ⟨w1,w2,w3,w4,w5,w6,w7⟩:=UW hw;have hrl:rest.length=st.pending.length - (14+p.length):=by rw [w5,cA]
  obtain ⟨si,hsi⟩:∃si,si=st.journal.length - st.pending.length:=⟨_,rfl⟩;obtain ⟨en,hen⟩:∃en,en=st.journal.length - rest.length:=⟨_,rfl⟩;have hes:en=si+14+p.length:=by omega
  rw [<-hsi] at hj hpe;rw [<-hen];have c1:ym (bV st.journal) (some ((si:Int)+7)) (some ((en:Int) - 7))=bV p:=by
   have e1:((si:Int)+7)=((si+7:Nat):Int):=by omega
   have e2:((en:Int) - 7)=((en - 7:Nat):Int):=by omega
   rw [e1,e2,Ln,Y8];congr 1;rw [w4,hpe,gO];have:en - 7 - (si+7)=p.length:=by omega
   rw [this]
  have c2:ym (bV st.journal) (some ((en:Int) - 7+1)) (some ((en:Int) - 7+1+5))=bV ((st.pending.drop (8+p.length)).take 5):=by
   have e1:((en:Int) - 7+1)=((en - 6:Nat):Int):=by omega
   have e2:((en - 6:Nat):Int)+5=((en - 1:Nat):Int):=by omega
   rw [e1,e2,Ln,Y8];have e3:en - 1 - (en - 6)=5:=by omega
   rw [e3];congr 2;rw [hpe,gO];congr 1;omega
  walk_at "rd";refine ⟨_,_,_,hj,T.bR,T.eN,_,rfl,_,_,_,hj,T.bR,T.ie,_,rfl,_,rfl,_,rfl,_,cY.of RJ,λp1 hp1=>?_⟩;rw [c1];have s1:bh H (upd H p1 (.lst (bV p))):=bh.new hp1;have Hy:(upd H p1 (.lst (bV p))) p1=some (.lst (bV p)):=aD;revert s1 Hy;generalize (upd H p1 (.lst (bV p)))=H1;intro s1 Hy;refine cz (bw (lL 4 jQ.nd (cJ Mp (hr.mono (by decide)) rfl T.Vj T.xV.kp T.Dk .nil dz (aq (jF lF (aO (pv 0) rfl) (gr (fC kW (pv 2) bG)) (gr (fC kW (fC kW (pv 2) bG) (bH T.Hu)))) aG)))) ?_;walk_at "rd";refine ⟨_,_,_,s1 _ _ hj,T.bR,T.eN,_,rfl,_,rfl,_,cY.of (s1 _ _ RJ),λp2 hp2=>?_⟩;rw [c2];have s2':bh H1 (upd H1 p2 (.lst (bV ((st.pending.drop (8+p.length)).take 5)))):=bh.new hp2;have hp2':(upd H1 p2 (.lst (bV ((st.pending.drop (8+p.length)).take 5)))) p2=some (.lst (bV ((st.pending.drop (8+p.length)).take 5))):=aD;revert s2' hp2';generalize (upd H1 p2 (.lst (bV ((st.pending.drop (8+p.length)).take 5))))=H2;intro s2' hp2';have s2:=s1.trans s2';obtain ⟨BV,hb2⟩:=(hB.same s2).bk;refine ⟨p2,_,rfl,cY.of hp2',w6,by rw [bO];omega,?_⟩;refine cz (bw (lL 5 jQ.nd (acg T.ajf aaI (hr.mono (by decide)) rfl T.al4 T.El .nil dz (aq (pv 1) (aq (aO (aO (pv 0) rfl) rfl) aG))))) ?_;walk_at "rd";refine ⟨_,_,_,s2 _ _ hj,T.bR,T.cI,_,rfl,_,rfl,_,_,_,hb2,T.cN,T.jR,_,rfl,λr dx hr0 hdx hne=>?_⟩;refine ⟨r,dx,en,st.books.month,rfl,aD,λH3 hr3 b3=>⟨rfl,?_⟩⟩;have s3':∀x o,H2 x=some o->H3 x=some o:=λx o h=>by
   have n1:x≠r:=λz=>by rw [z,hr0] at h;cases h
   have n2:x≠dx:=λz=>by rw [z,hdx] at h;cases h
   refine b3 x o ?_ n1;rw [aF n1,aF n2];exact h
  have s3:bh H H3:=s2.trans s3';have hrH:H r=none:=by
   cases hh:H r with
   |none=>rfl
   |some o=>have:=s2 r o hh;rw [hr0] at this;cases this
  have nr:¬S0 r:=λz=>hal r z hrH;refine cz (bw (dW (bZ oN (pv 4) (cJ Mm (hr.mono (by decide)) rfl T.YB T.Fi.kp T.Lw .nil dz (aq (pv 3) aG)) (cP _)) (aK (gB (pv 5) (cJ vW (hr.mono (by decide)) rfl T.acL T.zp.kp T.Il .nil dz (aq (aO (pv 0) rfl) (aq (pv 5) (aq (pv 3) aG)))) rfl)) (aK (gB (pv 5) (bH T.aeC) rfl)))) ?_;walk_at "rd";refine ⟨p1,p,rfl,cY.of (s3' _ _ (s2' _ _ Hy)),aY w2 (by decide),λH4 s4'=>?_⟩;have s4:=s3.trans s4';have hr4:=s4' _ _ hr3;have hB4:=hB.same s4;have hrm:st.ends.length=st.books.records.length:=hB.esl;refine ⟨rfl,?_⟩;by_cases hsum:au ((st.pending.drop (8+p.length)).take 5)=xK p
  ·have hri:right=true:=by rw [w7,hsum];exact beq_self_eq_true _
   rw [if_pos (by rw [hsum])];refine ⟨_,_,_,s4 _ _ hj,T.bR,T.cI,_,rfl,?_⟩;refine ⟨b,r,p1,N,st.books,st.ends,L,S0,dx,en,st.books.month,"",p,rfl,hB4,hnl,by omega,nr,hr4,cY.of (s4' _ _ (s3' _ _ (s2' _ _ Hy))),by omega,λH5 hA=>?_⟩;have hR:Ready A N H st b r dx en S0 p right H5 (bL st.books p).1:=by
    obtain ⟨L',S',v,un,g1,g2,g3,g4,g5⟩:=hA.ex;refine ⟨⟨(bL st.books p).2.2.1,L',S',v,(bL st.books p).2.2.2,un,(bL st.books p).2.1,g1,g3,g2,⟨g4.1,g4.2.trans (adE _ _),by rw [g4.2.trans (adE _ _)];exact afJ hB.ok⟩,λz=>?_,λm hm=>acj hB.ok hm,by rw [hri];rfl,λx hx=>?_⟩,by rw [hri];rfl,λx o h hx=>hA.fr x o (s4 x o h) hx λz=>by rw [z,hrH] at h;cases h⟩
    ·rcases g5 r z with z | z
     ·exact nr z
     ·rw [hr4] at z;cases z
    ·refine (g5 x hx).imp id λz=>?_;cases hh:H x with
     |none=>rfl
     |some o=>have:=s4 x o hh;rw [z] at this;cases this
   revert hR;generalize (bL st.books p).1=c;intro hR;obtain ⟨⟨B1,L1,S1,v,mv,un,user,k1,k2,k3,k4,k5,k6,k7,k8⟩,hco,kfr⟩:=hR;have agl:¬S1 j:=λz=>by
    rcases k8 j z with z | z
    ·exact nj z
    ·rw [hj] at z;cases z
   have als:¬S1 ta:=λz=>by
    rcases k8 ta z with z | z
    ·exact nt z
    ·rw [RJ] at z;cases z
   have hj5:=kfr _ _ hj nj;have apj:=kfr _ _ RJ nt;have njr:j≠r:=λz=>by rw [z,hrH] at hj;cases hj
   have ntr:ta≠r:=λz=>by rw [z,hrH] at RJ;cases RJ
   have ntj:ta≠j:=λz=>by rw [z,hj] at RJ;cases RJ
   try dsimp only
   refine ⟨_,_,_,k2,T.dg,T.lr,by show 6<1000;decide,?_⟩;have ep:dU (bA "code") (V.int (c:Int)) (nW en st.books.month un 0 false v)=nW en st.books.month un c false v:=rfl;rw [ep];have hk6:∀x o,x≠r->H5 x=some o->(upd H5 r (.ins A.cX dx (nW en st.books.month un c false v))) x=some o:=λx o hx h=>by rw [aF hx];exact h
   have hr6:(upd H5 r (.ins A.cX dx (nW en st.books.month un c false v))) r=some (.ins A.cX dx (nW en st.books.month un c false v)):=aD;revert hk6 hr6;generalize (upd H5 r (.ins A.cX dx (nW en st.books.month un c false v)))=H6;intro hk6 hr6;have SN:=k1.keep (H':=H6) λx o hx h=>hk6 x o (λz=>k5 (z▸hx)) h;have hM6:=k3.keep (H':=H6) (S':=S1) (λx o hx h=>hk6 x o (λz=>k5 (z▸hx)) h) λ_ z=>z;have hB7:=SN.enter hr6 hM6 k4 k5 k6;have hj6:=hk6 _ _ njr hj5;have api:=hk6 _ _ ntr apj;obtain ⟨auC,hb6⟩:=SN.bk;have atX:L1.rs.length<=N:=by have e1:=SN.Cr;have e2:=SN.esl;omega
   have nre:j≠L1.re:=λz=>agl (by rw [z];exact SN.own.2.2.2.2.2.1);have tre:ta≠L1.re:=λz=>als (by rw [z];exact SN.own.2.2.2.2.2.1);refine cz (bw (jn (rM bY gR gQ uo (aO (aO (pv 0) rfl) rfl) (aq (pv 5) aG)))) ?_;walk_at "rd";refine ⟨_,_,_,hj6,T.bR,T.cI,_,rfl,_,rfl,_,_,_,hb6,T.cN,T.fD,_,rfl,.inl ⟨rfl,_,cY.of SN.re⟩,_,rfl,_,SN.re,?_,?_⟩
   ·rw [ao,sizeLine_eq];omega
   have ea:L1.rs.map V.ref++[V.ref r]=(L1.rs++[r]).map V.ref:=by rw [cT];rfl
   rw [ea];have hk7:∀x o,x≠L1.re->H6 x=some o->(upd H6 L1.re (.lst ((L1.rs++[r]).map V.ref))) x=some o:=λx o hx h=>by rw [aF hx];exact h
   revert hB7 hk7;generalize (upd H6 L1.re (.lst ((L1.rs++[r]).map V.ref)))=H7;intro hB7 hk7;have hj7:=hk7 _ _ nre hj6;have aph:=hk7 _ _ tre api;have rre:r≠L1.re:=λz=>k5 (by rw [z];exact SN.own.2.2.2.2.2.1);have hr7:=hk7 _ _ rre hr6;refine cz (bw (gB (pv 0) (pv 1) rfl)) ?_;walk_at "rd";refine ⟨_,_,_,hj7,T.bR,T.ie,by show 4<1000;decide,?_⟩;have ej:dU (bA "settled") (V.int (en:Int)) (rP ta si br b)=rP ta en br b:=rfl;rw [ej];refine cz (aK (bB (aO (pv 5) rfl))) ?_;walk_at "rd";refine ⟨_,_,_,by rw [aF (cO njr)];exact hr7,T.dg,T.lr,_,rfl,?_⟩;rw [hco] at q;refine q _ ⟨⟨L1.us,L1.me,L1.pl,L1.sc,L1.re,L1.ps,L1.rs++[r]⟩,λx=>S1 x\/x=r,?_,λx hx=>?_⟩ λx o h hS hxj=>?_
   ·refine ⟨⟨Oi,?_⟩,?_,?_,?_,?_,?_,?_,?_⟩
    ·show upd H7 j _ j=some (.ins A.dD Oi (rP ta (st.journal.length - rest.length) br b));rw [aD,hen]
    ·rw [aF ntj];exact aph
    ·show rest.length<=st.journal.length;omega
    ·show rest=st.journal.drop (st.journal.length - rest.length);rw [<-hen,w5,hpe,gO];congr 1;omega
    ·show bJ A (N+1) (upd H7 j _) b (kE st.books p right) (st.ends++[st.journal.length - rest.length]) _ _;rw [k7,<-hen];exact hB7.keep λx o hx h=>by
      rw [aF (λz=>by subst z;rcases hx with hx | hx;exact agl hx;exact njr hx)];exact h
    ·show (kE st.books p right).records.length<=N+1;rw [k7];show (B1.records++[_]).length<=N+1;rw [aJ];have e1:=SN.esl;simp only [aH,bF];omega
    ·intro z;rcases z with z | z
     ·exact agl z
     ·exact njr z
    ·intro z;rcases z with z | z
     ·exact als z
     ·exact ntr z
   ·rcases hx with hx | hx
    ·exact (k8 x hx).imp (hS0 x) id
    ·rw [hx];exact .inr hrH
   ·have hS':¬S0 x:=λz=>hS (hS0 x z);have nxr:x≠r:=λz=>by rw [z,hrH] at h;cases h
    have nS1:¬S1 x:=λz=>by
     rcases k8 x z with z | z
     ·exact hS' z
     ·rw [h] at z;cases z
    rw [aF hxj];exact hk7 _ _ (λz=>nS1 (by rw [z];exact SN.own.2.2.2.2.2.1)) (hk6 _ _ nxr (kfr _ _ h hS'))
  ·have hri:right=false:=by rw [w7];exact beq_eq_false_iff_ne.mpr (cO hsum)
   rw [if_neg (by intro z;exact hsum (Int.ofNat.inj (V.int.inj z)))];have hR:Ready A N H st b r dx en S0 p right H4 1:=by
    refine ⟨⟨st.books,L,S0,.non,none,"",[],hB4.more,hr4,rfl,⟨nofun,rfl,λc hc=>by rw [show (bA "").cps.toList=[] from by decide+kernel] at hc;cases hc⟩,nr,nofun,by rw [hri];rfl,λx hx=>.inl hx⟩,by rw [hri];rfl,λx o h _=>s4 x o h⟩
   obtain ⟨⟨B1,L1,S1,v,mv,un,user,k1,k2,k3,k4,k5,k6,k7,k8⟩,hco,kfr⟩:=hR;have agl:¬S1 j:=λz=>by
    rcases k8 j z with z | z
    ·exact nj z
    ·rw [hj] at z;cases z
   have als:¬S1 ta:=λz=>by
    rcases k8 ta z with z | z
    ·exact nt z
    ·rw [RJ] at z;cases z
   have hj5:=kfr _ _ hj nj;have apj:=kfr _ _ RJ nt;have njr:j≠r:=λz=>by rw [z,hrH] at hj;cases hj
   have ntr:ta≠r:=λz=>by rw [z,hrH] at RJ;cases RJ
   have ntj:ta≠j:=λz=>by rw [z,hj] at RJ;cases RJ
   refine ⟨_,_,_,k2,T.dg,T.lr,by show 6<1000;decide,?_⟩;have ep:dU (bA "code") (V.int (1:Int)) (nW en st.books.month un 0 false v)=nW en st.books.month un 1 false v:=rfl;rw [ep];have hk6:∀x o,x≠r->H4 x=some o->(upd H4 r (.ins A.cX dx (nW en st.books.month un 1 false v))) x=some o:=λx o hx h=>by rw [aF hx];exact h
   have hr6:(upd H4 r (.ins A.cX dx (nW en st.books.month un 1 false v))) r=some (.ins A.cX dx (nW en st.books.month un 1 false v)):=aD;revert hk6 hr6;generalize (upd H4 r (.ins A.cX dx (nW en st.books.month un 1 false v)))=H6;intro hk6 hr6;have SN:=k1.keep (H':=H6) λx o hx h=>hk6 x o (λz=>k5 (z▸hx)) h;have hM6:=k3.keep (H':=H6) (S':=S1) (λx o hx h=>hk6 x o (λz=>k5 (z▸hx)) h) λ_ z=>z;have hB7:=SN.enter hr6 hM6 k4 k5 k6;have hj6:=hk6 _ _ njr hj5;have api:=hk6 _ _ ntr apj;obtain ⟨auC,hb6⟩:=SN.bk;have atX:L1.rs.length<=N:=by have e1:=SN.Cr;have e2:=SN.esl;omega
   have nre:j≠L1.re:=λz=>agl (by rw [z];exact SN.own.2.2.2.2.2.1);have tre:ta≠L1.re:=λz=>als (by rw [z];exact SN.own.2.2.2.2.2.1);refine cz (bw (jn (rM bY gR gQ uo (aO (aO (pv 0) rfl) rfl) (aq (pv 5) aG)))) ?_;walk_at "rd";refine ⟨_,_,_,hj6,T.bR,T.cI,_,rfl,_,rfl,_,_,_,hb6,T.cN,T.fD,_,rfl,.inl ⟨rfl,_,cY.of SN.re⟩,_,rfl,_,SN.re,?_,?_⟩
   ·rw [ao,sizeLine_eq];omega
   have ea:L1.rs.map V.ref++[V.ref r]=(L1.rs++[r]).map V.ref:=by rw [cT];rfl
   rw [ea];have hk7:∀x o,x≠L1.re->H6 x=some o->(upd H6 L1.re (.lst ((L1.rs++[r]).map V.ref))) x=some o:=λx o hx h=>by rw [aF hx];exact h
   revert hB7 hk7;generalize (upd H6 L1.re (.lst ((L1.rs++[r]).map V.ref)))=H7;intro hB7 hk7;have hj7:=hk7 _ _ nre hj6;have aph:=hk7 _ _ tre api;have rre:r≠L1.re:=λz=>k5 (by rw [z];exact SN.own.2.2.2.2.2.1);have hr7:=hk7 _ _ rre hr6;refine cz (bw (gB (pv 0) (pv 1) rfl)) ?_;walk_at "rd";refine ⟨_,_,_,hj7,T.bR,T.ie,by show 4<1000;decide,?_⟩;have ej:dU (bA "settled") (V.int (en:Int)) (rP ta si br b)=rP ta en br b:=rfl;rw [ej];refine cz (aK (bB (aO (pv 5) rfl))) ?_;walk_at "rd";refine ⟨_,_,_,by rw [aF (cO njr)];exact hr7,T.dg,T.lr,_,rfl,?_⟩;rw [hco] at q;refine q _ ⟨⟨L1.us,L1.me,L1.pl,L1.sc,L1.re,L1.ps,L1.rs++[r]⟩,λx=>S1 x\/x=r,?_,λx hx=>?_⟩ λx o h hS hxj=>?_
   ·refine ⟨⟨Oi,?_⟩,?_,?_,?_,?_,?_,?_,?_⟩
    ·show upd H7 j _ j=some (.ins A.dD Oi (rP ta (st.journal.length - rest.length) br b));rw [aD,hen]
    ·rw [aF ntj];exact aph
    ·show rest.length<=st.journal.length;omega
    ·show rest=st.journal.drop (st.journal.length - rest.length);rw [<-hen,w5,hpe,gO];congr 1;omega
    ·show bJ A (N+1) (upd H7 j _) b (kE st.books p right) (st.ends++[st.journal.length - rest.length]) _ _;rw [k7,<-hen];exact hB7.keep λx o hx h=>by
      rw [aF (λz=>by subst z;rcases hx with hx | hx;exact agl hx;exact njr hx)];exact h
    ·show (kE st.books p right).records.length<=N+1;rw [k7];show (B1.records++[_]).length<=N+1;rw [aJ];have e1:=SN.esl;simp only [aH,bF];omega
    ·intro z;rcases z with z | z
     ·exact agl z
     ·exact njr z
    ·intro z;rcases z with z | z
     ·exact als z
     ·exact ntr z
   ·rcases hx with hx | hx
    ·exact (k8 x hx).imp (hS0 x) id
    ·rw [hx];exact .inr hrH
   ·have hS':¬S0 x:=λz=>hS (hS0 x z);have nxr:x≠r:=λz=>by rw [z,hrH] at h;cases h
    have nS1:¬S1 x:=λz=>by
     rcases k8 x z with z | z
     ·exact hS' z
     ·rw [h] at z;cases z
    rw [aF hxj];exact hk7 _ _ (λz=>nS1 (by rw [z];exact SN.own.2.2.2.2.2.1)) (hk6 _ _ nxr (kfr _ _ h hS'))))
end
end
section
noncomputable abbrev cds (B:aC):List Nat:=B.records.map λr=>r.code
theorem acA(l:List jw)(i:Nat):(l.modify i λx=>{x with back:=true}).map (λr=>r.code)=l.map λr=>r.code:=by
 apply rm;intro k;rw [aW,aW,akH];cases l[k]? with
 |none=>rfl
 |some x=>
  show some (if i=k then {x with back:=true} else x:jw).code=some x.code;by_cases h:i=k
  ·rw [if_pos h]
  ·rw [if_neg h]
theorem Pk{B B':aC}{u:dG}{ws:List (List Nat)}{mv:Option bK}(h:fL B u ws= .ok (B',mv)):cds B'=cds B:=(by apply aj:aa (by
 match ws with
 |[]=>cases h
 |c::us=>
  rcases KN (c:=c) with ⟨s,hs,e⟩ | hno
  ·subst e;simp only [pD,bc,bU,or_false] at hs;rcases hs with rfl | rfl | rfl | rfl | rfl | rfl | rfl | rfl | rfl | rfl
   ·rw [RX] at h
    match us with
    |[]=>cases h
    |[_]=>cases h
    |_::_::_::_=>cases h
    |[n,r]=>rw [(eV (JP h).1).1]
   ·rw [NQ] at h
    match us with
    |[]=>cases h
    |_::_::_=>cases h
    |[n]=>rw [(eV (JP h).1).1]
   ·rw [NP] at h
    match us with
    |[]=>cases h
    |[_]=>cases h
    |_::_::_::_=>cases h
    |[n,r]=>rw [(eV (JP h).1).1]
   ·rw [R0] at h
    match us with
    |[]=>cases h
    |[_]=>cases h
    |n::k::ms=>rw [(eV (JP h).1).1]
   ·rw [R1] at h
    match us with
    |[]=>cases h
    |[_]=>cases h
    |[_,_]=>cases h
    |_::_::_::_::_=>cases h
    |[f,t,k]=>rw [(eV (JP h).1).1];rfl
   ·rw [RZ] at h
    match us with
    |[]=>cases h
    |[_]=>cases h
    |[_,_]=>cases h
    |f::t::k::ms=>rw [(eV (JP h).1).1];rfl
   ·rw [R3] at h
    match us with
    |[]=>cases h
    |_::_::_=>cases h
    |[n]=>
     dsimp only at h;cases hm:(B.records.getD (au n - 1) {user:=[],code:=1,month:=0,move:=none,back:=true}).move with
     |none=>
      rw [hm] at h;dsimp only at h;cases hg:jA [(aN n,2),(decide (2<=u.rank),4)] (B,none) with
      |error k=>rw [hg] at h;cases h
      |ok x=>rw [hg] at h;cases h
     |some m0=>
      rw [hm] at h;dsimp only at h;rw [(eV (JP h).1).1];exact acA _ _
   ·rw [NT] at h
    match us with
    |_::_=>cases h
    |[]=>rw [(eV (JP h).1).1]
   ·rw [NK] at h;rw [(eV (JP h).1).1]
   ·rw [Y5] at h;rw [<-(eV (Except.ok.inj h)).1]
  ·rw [Qg hno] at h;cases h))
theorem aah(B:aC)(p:List Nat):cds (bL B p).2.2.1=cds B:=(by apply aj:aa (by
 unfold bL;cases hw:fX p with
 |nil=>rfl
 |cons wd ws=>
  dsimp only;cases hr:(if wd=[45] then (if B.users.isEmpty=true/\ws.head? =some (bT "user") then fL B {name:=[45],rank:=3} ws else .error 3) else match ir B wd with | none=>.error 3 | some u=>fL B u ws:aaJ) with
  |error k=>rfl
  |ok x=>
   show cds x.1=cds B;by_cases ZC:wd=[45]
   ·rw [if_pos ZC] at hr;by_cases h2:B.users.isEmpty=true/\ws.head? =some (bT "user")
    ·rw [if_pos h2] at hr;exact Pk hr
    ·rw [if_neg h2] at hr;cases hr
   ·rw [if_neg ZC] at hr;cases hu:ir B wd with
    |none=>rw [hu] at hr;cases hr
    |some u=>rw [hu] at hr;exact Pk hr))
theorem Pj(B:aC)(p:List Nat)(right:Bool):cds (kE B p right)=cds B++[codeIn B p right]:=by
 unfold kE codeIn;cases right with
 |false=>rw [if_pos rfl,if_pos rfl];show (B.records++[_]).map _=_;rw [cT];rfl
 |true=>
  rw [if_neg (by decide),if_neg (by decide)];show ((bL B p).2.2.1.records++[_]).map _=_;rw [cT];show cds (bL B p).2.2.1++[(bL B p).1]=_;rw [aah]
end
section
open PySem PySem.Spec PyProof.Rows
section
variable {P:Program} {w:World} {K:az} {mg:Str->Option Value} {base:Heap} {A:uw}
inductive amP(A:uw)(vs:List V)(H:Hp)(Q:VK)(E:XK):Prop
 |mk (j ta b a:Addr) (N:Nat) (st:cB) (L:Lay) (S:Addr->Prop) (l:List Nat) (_:vs=[.ref j,.ref a]) (_:gf A N H false j ta b st L S) (_:N+st.pending.length<=st.journal.length) (_:st.broken=false) (_:H a=some (.lst (bV l))) (_:st.journal.length+l.length<=6000) (_:∀D H',(∃N' L' S',gf A N' H' (gW st l).broken j ta b (gW st l) L' S'/\N'+(gW st l).pending.length<=(gW st l).journal.length/\(∀x,S' x->S x\/H x=none)/\¬S' D)->H D=none->H' D=some (.lst (bV (mV (gW st l).books st.books.records.length)))->(∀x o,H x=some o->¬S x->x≠j->x≠ta->H' x=some o)->Q (.ref D) H')
theorem gf.keep{N:Nat}{H H':Hp}{br:Bool}{j ta b:Addr}{st:cB}{L:Lay}{S:Addr->Prop}(h:gf A N H br j ta b st L S)(k:∀x o,(S x\/x=j\/x=ta)->H x=some o->H' x=some o):gf A N H' br j ta b st L S:=
 ⟨let ⟨dx,e⟩:=h.ob;⟨dx,k _ _ (.inr (.inl rfl)) e⟩,k _ _ (.inr (.inr rfl)) h.ha,h.pl,h.pe,h.bk.keep λx o hx=>k x o (.inl hx),h.nl,h.nj,h.nt⟩
theorem gf.same{N:Nat}{H H':Hp}{br:Bool}{j ta b:Addr}{st:cB}{L:Lay}{S:Addr->Prop}(h:gf A N H br j ta b st L S)(s:bh H H'):gf A N H' br j ta b st L S:=h.keep λx o _ e=>s x o e
theorem gf.Oz{N:Nat}{H:Hp}{br:Bool}{j ta b:Addr}{st:cB}{L:Lay}{S:Addr->Prop}(h:gf A N H br j ta b st L S):gf A N H br j ta b st L (λx=>S x/\H x≠none):=
 ⟨h.ob,h.ha,h.pl,h.pe,h.bk.Oz,h.nl,λz=>h.nj z.1,λz=>h.nt z.1⟩
theorem abV{k:Nat}{s:cB}(h:JH s.pending= .part):lU (k+1) s=s:=by unfold lU;rw [h]
theorem Xc{k:Nat}{s:cB}(h:JH s.pending= .broken):lU (k+1) s={s with broken:=true}:=by unfold lU;rw [h]
theorem aac{k:Nat}{s:cB}{p rest:List Nat}{right:Bool}(h:JH s.pending= .whole p right rest):lU (k+1) s=lU k (stepped s p right rest):=by
 rw [lU,h];rfl
theorem ajU(B:aC)(n:Nat):mV B n=(cds B).drop n:=by unfold mV;rw [Af]
inductive aoq(A:uw)(H:Hp)(j ta b a D:Addr)(st:cB)(l:List Nat)(S0:Addr->Prop)(R:Nat->Prop)(σ:St)(H':Hp):Prop
 |mk (sk:cB) (N':Nat) (L':Lay) (S':Addr->Prop) (k:Nat) (_:R sk.pending.length) (_:sk.pending.length<k) (_:lU k sk=gW st l) (_:sk.broken=false) (_:sk.journal.length<=6000) (_:gf A N' H' false j ta b sk L' S') (_:N'+sk.pending.length<=sk.journal.length)
  (_:∀x,S' x->S0 x\/H x=none) (_:¬S' D) (_:H' D=some (.lst (bV ((cds sk.books).drop st.books.records.length)))) (_:st.books.records.length<=sk.books.records.length)
  (_:σ=[some (.ref j),some (.ref a),some (.ref D),some (.int (endAt sk.journal (sk.journal.length - sk.pending.length)))]) (_:∀x o,H x=some o->¬S0 x->x≠j->x≠ta->H' x=some o)
theorem ahO(T:Txt P w K mg A)(vW:fU P w K mg base mU 5 A.qU A.lg oh (wZ K A)):fU P w K mg base mU 7 A.BP A.pq vq (amP A):=(by apply aj:aa (by
 have Sy:=aak (base:=base) T;have Oo:=acr (base:=base) T vW;refine T.Av.ok sX (λvs H Q E h=>?_) (λcdv A' outer s H vs Q E hr h=>?_)
 ·obtain ⟨j,ta,b,a,N,st,L,S,l,rfl,_⟩:=h;rfl
 ·obtain ⟨j,ta,b,a,N,st,L,S,l,rfl,hJ,hN,hbr,ha,hl,q⟩:=h;refine ⟨_,(aL (jn (rM bY fj fc nA (aO (pv 0) rfl) (aq (pv 1) aG)))
   (aL (lL 2 sX.nd (cZ aG))
   (aL (lL 3 sX.nd (cJ Sy (hr.mono (by decide)) rfl T.RP T.uF.kp T.zY .nil dz (aq (aO (pv 0) rfl) (aq (aO (pv 0) rfl) aG))))
   (aL (ad4 ji (bZ O2 (pv 3) bG (cP _)) (aL (jn (rM bY gR gQ uo (pv 2) (aq (Hj (pv 0) T.bR T.KH Oo (hr.mono (by decide)) T.rE .nil dz (aq (pv 3) aG)) aG)))
   (aK (lL 3 sX.nd (cJ Sy (hr.mono (by decide)) rfl T.RP T.uF.kp T.zY .nil dz (aq (aO (pv 0) rfl) (aq (aO (pv 0) rfl) aG)))))))
   (aL (gB (pv 0) (nZ oN (pv 3) (bH T.FQ) (cP _)) rfl)
   (aK (bB (pv 2)))))))),?_⟩
  have hal:∀x,(λx=>S x/\H x≠none) x->H x≠none:=λx z=>z.2;have hS0:∀x,(λx=>S x/\H x≠none) x->S x:=λx z=>z.1;have hJ0:=hJ.Oz;generalize (λx=>S x/\H x≠none)=S0 at hal hS0 hJ0;obtain ⟨Oi,hj⟩:=hJ0.ob;have RJ:=hJ0.ha;have njt:j≠ta:=λz=>by rw [z,RJ] at hj;cases hj
  have hsl:sizeLine=16777216:=sizeLine_eq;walk_at "rd";refine ⟨_,_,_,hj,T.bR,T.eN,_,rfl,.inl ⟨rfl,_,cY.of RJ⟩,_,rfl,_,RJ,_,ha,by rw [ao,ao];omega,by omega,λD hD=>?_⟩;have eb:bV st.journal++bV l=bV (st.journal++l):=(cT ..).symm;rw [eb];rw [eb] at hD;have hDt:D≠ta:=λz=>by rw [z,aD] at hD;cases hD
  have hDH:H D=none:=by rw [aF hDt] at hD;exact hD
  have nD:¬S0 D:=λz=>hal D z hDH;have hDj:D≠j:=λz=>by rw [z,hj] at hDH;cases hDH
  have hk1:∀x o,H x=some o->x≠ta->(upd (upd H ta (.lst (bV (st.journal++l)))) D (.lst [])) x=some o:=λx o h hx=>by
   rw [aF (λz=>by rw [z,hDH] at h;cases h),aF hx];exact h
  have ht1:(upd (upd H ta (.lst (bV (st.journal++l)))) D (.lst [])) ta=some (.lst (bV (st.journal++l))):=by rw [aF (cO hDt),aD]
  have hD1:(upd (upd H ta (.lst (bV (st.journal++l)))) D (.lst [])) D=some (.lst []):=aD;revert hk1 ht1 hD1;generalize (upd (upd H ta (.lst (bV (st.journal++l)))) D (.lst []))=H1;intro hk1 ht1 hD1;obtain ⟨s0,hs0⟩:∃s0:cB,s0={st with journal:=st.journal++l,pending:=st.pending++l}:=⟨_,rfl⟩;have hsi:(st.journal++l).length - (st.pending++l).length=st.journal.length - st.pending.length:=by rw [aJ,aJ];omega
  have hpl:=hJ0.pl;have hJ1:gf A N H1 false j ta b s0 L S0:=by
   subst hs0;refine ⟨⟨Oi,?_⟩,ht1,?_,?_,hJ0.bk.keep λx o hx h=>hk1 x o h λz=>hJ0.nt (z▸hx),hJ0.nl,hJ0.nj,hJ0.nt⟩
   ·show H1 j=some (.ins A.dD Oi (rP ta ((st.journal++l).length - (st.pending++l).length) false b));rw [hsi];exact hk1 _ _ hj njt
   ·show (st.pending++l).length<=(st.journal++l).length;rw [aJ,aJ];omega
   ·show st.pending++l=(st.journal++l).drop ((st.journal++l).length - (st.pending++l).length);rw [hsi,iZ (by omega),<-hJ0.pe]
  have aue:gW st l=lU (st.pending.length+l.length+1) s0:=by unfold gW;rw [if_neg (by rw [hbr];decide),hs0]
  have hjs:s0.journal.length<=6000:=by rw [hs0];show (st.journal++l).length<=6000;rw [aJ];omega
  obtain ⟨axt,hj1⟩:=hJ1.ob;refine ⟨_,_,_,hj1,T.bR,T.eN,_,rfl,_,_,_,hj1,T.bR,T.ie,_,rfl,?_⟩;refine ⟨ta,s0.journal,s0.journal.length - s0.pending.length,rfl,cY.of hJ1.ha,by omega,by omega,λH2 s2=>?_⟩
  try dsimp only
  refine ⟨λm=>aoq A H j ta b a D st l S0 λx=>m=x,⟨_,s0,N,L,S0,st.pending.length+l.length+1,rfl,?_,aue.symm,by rw [hs0];exact hbr,hjs,hJ1.same s2,?_,λx hx=>.inl hx,nD,?_,by rw [hs0];exact aU _,rfl,λx o h _ _ hx=>s2 _ _ (hk1 x o h hx)⟩,?_⟩
  ·rw [hs0];show (st.pending++l).length<_;rw [aJ];omega
  ·rw [hs0];show N+(st.pending++l).length<=(st.journal++l).length;rw [aJ,aJ];omega
  ·rw [s2 _ _ hD1,hs0,gH (by show (cds st.books).length<=_;rw [ao];exact aU _)];rfl
  ·rintro m σ H3 ⟨sk,N',L',S',k,rfl,hk,apk,hbk,hjk,hJk,hNk,hSk,nDk,hDk,hrk,rfl,hfk⟩;walk_at "rd";obtain ⟨si,arb⟩:∃si,si=sk.journal.length - sk.pending.length:=⟨_,rfl⟩;obtain ⟨dxk,apm⟩:=hJk.ob;have awJ:=hJk.pl;have hpe:sk.journal.drop si=sk.pending:=by rw [arb];exact hJk.pe.symm
   have hend:endAt sk.journal si=if 0<endOf sk.pending then (si:Int)+endOf sk.pending else endOf sk.pending:=by unfold endAt;rw [hpe]
   have hk0:∃k',k=k'+1:=⟨k - 1,by omega⟩;obtain ⟨k',rfl⟩:=hk0;have hstop:∀(e:Int) (br':Bool) (t:cB),endAt sk.journal si=e->decide (e= -1)=br'->t={sk with broken:=br'}->t=gW st l->
     L2.wB K (bA "broken") j H3 λx x_1 x_2=>Q (V.ref D) (upd H3 j (.ins x x_1 (dU (bA "broken") (V.bl (decide (endAt sk.journal si= -1))) x_2))):=by
    intro e br' t he hb ht htf;rw [he,hb];refine ⟨_,_,_,apm,T.bR,T.jo,by show 4<1000;decide,?_⟩;have ep:dU (bA "broken") (V.bl br') (rP ta (sk.journal.length - sk.pending.length) false b)=rP ta (sk.journal.length - sk.pending.length) br' b:=rfl;rw [ep];refine q D _ ⟨N',L',S',?_,?_,λx hx=>(hSk x hx).imp (hS0 x) id,nDk⟩ hDH ?_ λx o h hS hxj hxt=>?_
    ·rw [<-htf,ht];refine ⟨⟨dxk,aD⟩,?_,hJk.pl,hJk.pe,?_,hJk.nl,hJk.nj,hJk.nt⟩
     ·rw [aF (cO njt)];exact hJk.ha
     ·exact hJk.bk.keep λx o hx h=>by have nx:x≠j:=λz=>hJk.nj (z▸hx);rw [aF nx];exact h
    ·rw [<-htf,ht];exact hNk
    ·rw [<-htf,ht,aF hDj,ajU];exact hDk
    ·rw [aF hxj];exact hfk x o h (λz=>hS (hS0 x z)) hxj hxt
   rw [<-arb];cases hh:JH sk.pending with
   |part=>
    have e0:endOf sk.pending=0:=by unfold endOf;rw [hh]
    have e1:endAt sk.journal si=0:=by rw [hend,e0,if_neg (by decide)]
    rw [e1,if_neg (by decide)];refine ⟨rfl,?_⟩;have:=hstop 0 false sk e1 rfl (by rw [<-hbk]) (by rw [<-apk,abV hh]);rw [e1] at this;exact this
   |broken=>
    have e0:endOf sk.pending= -1:=by unfold endOf;rw [hh]
    have e1:endAt sk.journal si= -1:=by rw [hend,e0,if_neg (by decide)]
    rw [e1,if_neg (by decide)];refine ⟨rfl,?_⟩;have:=hstop (-1) true {sk with broken:=true} e1 rfl rfl (by rw [<-apk,Xc hh]);rw [e1] at this;exact this
   |whole p right rest=>
    obtain ⟨w1,w2,w3,w4,w5,w6,w7⟩:=UW hh;have hrl:rest.length=sk.pending.length - (14+p.length):=by rw [w5,cA]
    have e0:endOf sk.pending=14+(p.length:Int):=by unfold endOf;rw [hh]
    have e1:endAt sk.journal si=((sk.journal.length - rest.length:Nat):Int):=by rw [hend,e0,if_pos (by omega)];omega
    rw [e1,if_pos (by omega)];refine ⟨λσ' H'=>∃m',m'<sk.pending.length/\aoq A H j ta b a D st l S0 (λx=>m'=x) σ' H',λσ' H' h=>h,.inl ⟨rfl,_,cY.of hDk⟩,_,_,apm,rfl,?_⟩;refine ⟨j,ta,b,N',false,sk,L',S',p,rest,right,rfl,hJk,by omega,by omega,hh,λH4 ⟨L4,S4,hJ4,hS4⟩ hf4=>?_⟩;have hD4:=hf4 _ _ hDk nDk hDj;have nD4:¬S4 D:=λz=>by
     rcases hS4 D z with z | z
     ·exact nDk z
     ·rw [hDk] at z;cases z
    refine ⟨_,hD4,?_,?_⟩
    ·rw [ao,cA,ao];have:=hJk.nl;omega
    have ecd:bV ((cds sk.books).drop st.books.records.length)++[V.int (codeIn sk.books p right:Int)]=bV ((cds (stepped sk p right rest).books).drop st.books.records.length):=by
     show _=bV ((cds (kE sk.books p right)).drop st.books.records.length);rw [Pj,iZ (by rw [ao];exact hrk)];unfold bV;rw [cT];rfl
    rw [ecd];have hJ5:=hJ4.keep (H':=upd H4 D (.lst (bV ((cds (stepped sk p right rest).books).drop st.books.records.length)))) λx o hx h=>by
     rw [aF (λz=>by subst z;rcases hx with hx | hx | hx;exact nD4 hx;exact hDj hx;exact hDt hx)];exact h
    have hD5:(upd H4 D (.lst (bV ((cds (stepped sk p right rest).books).drop st.books.records.length)))) D=some (.lst (bV ((cds (stepped sk p right rest).books).drop st.books.records.length))):=aD;have hk5:∀x o,H4 x=some o->x≠D->(upd H4 D (.lst (bV ((cds (stepped sk p right rest).books).drop st.books.records.length)))) x=some o:=λx o h hx=>by rw [aF hx];exact h
    revert hJ5 hD5 hk5;generalize (upd H4 D (.lst (bV ((cds (stepped sk p right rest).books).drop st.books.records.length))))=H5;intro hJ5 hD5 hk5;obtain ⟨dx5,hj5⟩:=hJ5.ob;have epl:(stepped sk p right rest).pending.length=rest.length:=rfl;have ejl:(stepped sk p right rest).journal.length=sk.journal.length:=rfl;refine ⟨_,_,_,hj5,T.bR,T.eN,_,rfl,_,_,_,hj5,T.bR,T.ie,_,rfl,?_⟩;refine ⟨ta,(stepped sk p right rest).journal,(stepped sk p right rest).journal.length - (stepped sk p right rest).pending.length,rfl,cY.of hJ5.ha,by omega,by omega,λH6 s6=>?_⟩;refine ⟨_,?_,stepped sk p right rest,N'+1,L4,S4,k',rfl,?_,by rw [<-apk,aac hh],hbk,hjk,hJ5.same s6,?_,λx hx=>?_,nD4,s6 _ _ hD5,?_,rfl,λx o h hS hxj hxt=>?_⟩
    ·omega
    ·omega
    ·omega
    ·rcases hS4 x hx with z | z
     ·exact hSk x z
     ·cases hx0:H x with
      |none=>exact .inr rfl
      |some o=>
       by_cases aru:S0 x
       ·exact .inl aru
       ·by_cases hxj:x=j
        ·rw [hxj,apm] at z;cases z
        ·by_cases hxt:x=ta
         ·rw [hxt,hJk.ha] at z;cases z
         ·rw [hfk x o hx0 aru hxj hxt] at z;cases z
    ·have e:=congrArg wu (Pj sk.books p right);rw [aJ,ao,ao] at e;show _<=(kE sk.books p right).records.length;simp only [aH,bF] at e;omega
    ·have atF:¬S' x:=λz=>by
      rcases hSk x z with z | z
      ·exact hS z
      ·rw [h] at z;cases z
     have nxD:x≠D:=λz=>by rw [z,hDH] at h;cases h
     exact s6 _ _ (hk5 _ _ (hf4 x o (hfk x o h hS hxj hxt) atF hxj) nxD)))
theorem Zc.at{H0 H:Hp}{p us me pl sc re:Addr}(h:Zc A H0 H p us me pl sc re):bJ A 0 H p Vbmiam.empty [] ⟨us,me,pl,sc,re,[],[]⟩ (λx=>x=p\/x=us\/x=me\/x=pl\/x=sc\/x=re) where
 ok:=⟨by decide,nofun,by decide,nofun,by decide,nofun,by decide,nofun,by decide,nofun,nofun,nofun,by decide⟩
 bk:=h.bk
 us:=h.hus
 me:=h.hme
 pl:=h.hpl
 sc:=h.hsc
 re:=h.hre
 yE:=rfl
 Cr:=rfl
 esl:=rfl
 pat:=λi p a la e1 e2=>by cases e2
 rat:=λi r a e e1 e2 e3=>by cases e2
 Xw:=by show ([]:List Addr).Nodup;exact xO
 Zx:=xO
 ne:=h.ne
 Xv:=nofun
 own:=⟨.inl rfl,.inr (.inl rfl),.inr (.inr (.inl rfl)),.inr (.inr (.inr (.inl rfl))),.inr (.inr (.inr (.inr (.inl rfl)))),.inr (.inr (.inr (.inr (.inr rfl)))),nofun,nofun⟩
inductive VF(A:uw)(vs:List V)(H:Hp)(Q:VK)(E:XK):Prop
 |mk (p dx:Addr) (_:vs=[.ref p]) (_:H p=some (.ins A.dD dx [])) (_:∀ta b L S H',gf A 0 H' false p ta b jz L S->(∀x,S x->H x=none)->H ta=none->QH p H H'->Q .non H')
theorem Ju(T:Txt P w K mg A):fU P w K mg base mU 3 A.BR A.pA vy (VF A):=(by apply aj:aa (by
 have adk:=aaq (base:=base) T;refine T.Aw.ok VJ (λvs H Q E h=>?_) (λcdv A' outer s H vs Q E hr h=>?_)
 ·obtain ⟨p,dx,rfl,_⟩:=h;rfl
 ·obtain ⟨p,dx,rfl,hp,q⟩:=h;refine ⟨_,(aL (gB (pv 0) (cZ aG) rfl)
   (aL (gB (pv 0) bG rfl)
   (aL (gB (pv 0) Js rfl)
   (aK (gB (pv 0) (Rk T.alx adk (hr.mono (by decide)) rfl T.anG T.Iv .nil dz) rfl))))),?_⟩
  walk_at "rd";refine ⟨by omega,λta RJ=>?_⟩;have ntp:ta≠p:=λz=>by rw [z,hp] at RJ;cases RJ
  refine ⟨_,_,_,by rw [aF (cO ntp)];exact hp,T.bR,T.eN,of_decide_eq_true rfl,_,_,_,aD,T.bR,T.ie,of_decide_eq_true rfl,_,_,_,aD,T.bR,T.jo,of_decide_eq_true rfl,?_⟩;have b1:QH p H (upd (upd (upd (upd H ta (.lst [])) p (.ins A.dD dx (dU (bA "taken") (V.ref ta) []))) p (.ins A.dD dx (dU (bA "settled") (V.int 0) (dU (bA "taken") (V.ref ta) [])))) p (.ins A.dD dx (dU (bA "broken") (V.bl false) (dU (bA "settled") (V.int 0) (dU (bA "taken") (V.ref ta) []))))):=
   (((QH.of_same (bh.new RJ)).upd).upd).upd
  have hp1:(upd (upd (upd (upd H ta (.lst [])) p (.ins A.dD dx (dU (bA "taken") (V.ref ta) []))) p (.ins A.dD dx (dU (bA "settled") (V.int 0) (dU (bA "taken") (V.ref ta) [])))) p (.ins A.dD dx (dU (bA "broken") (V.bl false) (dU (bA "settled") (V.int 0) (dU (bA "taken") (V.ref ta) []))))) p=some (.ins A.dD dx [("taken",.ref ta),("settled",.int 0),("broken",.bl false)]):=aD;have ht1:(upd (upd (upd (upd H ta (.lst [])) p (.ins A.dD dx (dU (bA "taken") (V.ref ta) []))) p (.ins A.dD dx (dU (bA "settled") (V.int 0) (dU (bA "taken") (V.ref ta) [])))) p (.ins A.dD dx (dU (bA "broken") (V.bl false) (dU (bA "settled") (V.int 0) (dU (bA "taken") (V.ref ta) []))))) ta=some (.lst []):=by
   rw [aF ntp,aF ntp,aF ntp,aD]
  revert b1 hp1 ht1;generalize (upd (upd (upd (upd H ta (.lst [])) p (.ins A.dD dx (dU (bA "taken") (V.ref ta) []))) p (.ins A.dD dx (dU (bA "settled") (V.int 0) (dU (bA "taken") (V.ref ta) [])))) p (.ins A.dD dx (dU (bA "broken") (V.bl false) (dU (bA "settled") (V.int 0) (dU (bA "taken") (V.ref ta) [])))))=H1;intro b1 hp1 ht1 b BV hb0 hdx hne;refine ⟨b,BV,rfl,aD,λus me pl sc re H2 hNB agx=>⟨rfl,?_⟩⟩;have hk2:∀x o,H1 x=some o->H2 x=some o:=λx o h=>by
   have n1:x≠b:=λz=>by rw [z,hb0] at h;cases h
   have n2:x≠BV:=λz=>by rw [z,hdx] at h;cases h
   exact agx x o (by rw [aF n1,aF n2];exact h) n1
  refine ⟨_,_,_,hk2 _ _ hp1,T.bR,T.cI,of_decide_eq_true rfl,?_⟩;have hnone:∀x,H1 x=none->H x=none:=λx hx=>by
   cases hh:H x with
   |none=>rfl
   |some o=>
    by_cases hxp:x=p
    ·rw [hxp,hp1] at hx;cases hx
    ·rw [b1 x o hh hxp] at hx;cases hx
  have hup:∀x,(upd (upd H1 BV (.own b)) b (.ins A.gh BV [])) x=none->H1 x=none:=λx hx=>by
   by_cases h1:x=b
   ·rw [h1,aD] at hx;cases hx
   ·rw [aF h1] at hx;by_cases h2:x=BV
    ·rw [h2,aD] at hx;cases hx
    ·rw [aF h2] at hx;exact hx
  have hS1:∀x,(x=b\/x=us\/x=me\/x=pl\/x=sc\/x=re)->H1 x=none:=λx hx=>by
   obtain ⟨f1,f2,f3,f4,f5⟩:=hNB.fr;rcases hx with rfl | rfl | rfl | rfl | rfl | rfl
   ·exact hb0
   ·exact hup _ f1
   ·exact hup _ f2
   ·exact hup _ f3
   ·exact hup _ f4
   ·exact hup _ f5
  have nSp:¬(p=b\/p=us\/p=me\/p=pl\/p=sc\/p=re):=λz=>by have:=hS1 p z;rw [hp1] at this;cases this
  have nSt:¬(ta=b\/ta=us\/ta=me\/ta=pl\/ta=sc\/ta=re):=λz=>by have:=hS1 ta z;rw [ht1] at this;cases this
  refine q ta b _ _ _ ⟨⟨dx,aD⟩,?_,aU _,rfl,hNB.at.keep λx o hx h=>?_,aU _,nSp,nSt⟩ (λx hx=>hnone x (hS1 x hx)) RJ λx o h hxp=>?_
  ·rw [aF ntp];exact hk2 _ _ ht1
  ·have nx:x≠p:=λz=>nSp (z▸hx);rw [aF nx];exact h
  ·rw [aF hxp];exact hk2 _ _ (b1 x o h hxp)))
inductive Z4(A:uw)(vs:List V)(H:Hp)(Q:VK)(E:XK):Prop
 |mk (a:Addr) (l:List Nat) (_:vs=[.ref a]) (_:H a=some (.lst (bV l))) (_:l.length<=6000) (_:∀j ta b N L S H',gf A N H' (cU l).broken j ta b (cU l) L S->N+(cU l).pending.length<=(cU l).journal.length->(∀x,S x->H x=none)->H j=none->H ta=none->bh H H'->Q (.ref j) H')
theorem Ea(T:Txt P w K mg A)(vW:fU P w K mg base mU 5 A.qU A.lg oh (wZ K A)):fU P w K mg base mU 8 A.HF A.rU zK (Z4 A):=(by apply aj:aa (by
 have Cp:=Ju (base:=base) T;have Cm:=ahO (base:=base) T vW;refine T.nR.ok OD (λvs H Q E h=>?_) (λcdv A' outer s H vs Q E hr h=>?_)
 ·obtain ⟨a,l,rfl,_⟩:=h;rfl
 ·obtain ⟨a,l,rfl,ha,hl,q⟩:=h;refine ⟨_,(aL (lL 1 OD.nd (Rk T.X7 Cp (hr.mono (by decide)) rfl T.abb T.vU .nil dz))
   (aL (jn (Hj (pv 1) T.bR T.Jx Cm (hr.mono (by decide)) T.vR .nil dz (aq (pv 0) aG)))
   (aK (bB (pv 1))))),?_⟩
  walk_at "rd";intro j dx hj0 hdx hne;have hk1:∀x o,H x=some o->(upd (upd H dx (.own j)) j (.ins A.dD dx [])) x=some o:=λx o h=>by
   have n1:x≠j:=λz=>by rw [z,hj0] at h;cases h
   have n2:x≠dx:=λz=>by rw [z,hdx] at h;cases h
   rw [aF n1,aF n2];exact h
  have hn1:∀x,(upd (upd H dx (.own j)) j (.ins A.dD dx [])) x=none->H x=none:=λx hx=>by
   cases hh:H x with
   |none=>rfl
   |some o=>rw [hk1 x o hh] at hx;cases hx
  refine ⟨j,dx,rfl,aD,λta b L S H2 hJ hS RJ agx=>⟨rfl,?_⟩⟩;have hk2:∀x o,H x=some o->H2 x=some o:=λx o h=>agx x o (hk1 x o h) λz=>by rw [z,hj0] at h;cases h
  have hn2:∀x,H2 x=none->H x=none:=λx hx=>by
   cases hh:H x with
   |none=>rfl
   |some o=>rw [hk2 x o hh] at hx;cases hx
  obtain ⟨Oi,hj⟩:=hJ.ob;refine ⟨_,_,hj,rfl,j,ta,b,a,0,jz,L,S,l,rfl,hJ,aU _,rfl,hk2 _ _ ha,by show 0+l.length<=6000;omega,λD H3 hE hD hD3 hf=>?_⟩;obtain ⟨N',L',S',g1,g2,g3,g4⟩:=hE;refine q j ta b N' L' S' H3 g1 g2 (λx hx=>?_) hj0 (hn1 _ RJ) λx o h=>?_
  ·rcases g3 x hx with z | z
   ·exact hn1 x (hS x z)
   ·exact hn2 x z
  ·refine hf x o (hk2 x o h) (λz=>?_) (λz=>?_) λz=>?_
   ·have:=hn1 x (hS x z);rw [h] at this;cases this
   ·rw [z,hj0] at h;cases h
   ·rw [z,hn1 _ RJ] at h;cases h))
noncomputable def v9 (p:dw):List Nat:=qY p.kind::p.kg::p.metals
inductive Z1(A:uw)(vs:List V)(H:Hp)(Q:VK)(E:XK):Prop
 |mk (b:Addr) (N:Nat) (B:aC) (es:List Nat) (L:Lay) (S:Addr->Prop) (_:vs=[.ref b]) (_:bJ A N H b B es L S) (_:∀D H',H D=none->bh H H'->H' D=some (.lst (bV (B.places.length::B.places.flatMap v9)))->Q (.ref D) H')
theorem af0{l:List dw}{ps:List (Addr×Addr)}{i:Nat}{k:Key}{x:V}(h:(eE l ps)[i]? =some (k,x)):∃p a la,l[i]? =some p/\ps[i]? =some (a,la)/\x= .ref a:=by
 unfold eE at h;rw [yS] at h;cases h1:l[i]? with
 |none=>rw [h1] at h;cases h
 |some p=>
  cases h2:ps[i]? with
  |none=>rw [h1,h2] at h;cases h
  |some a=>
   rw [h1,h2] at h;have h:=aB h;exact ⟨p,a.1,a.2,rfl,rfl,(eV h).2.symm⟩
theorem O3(T:Txt P w K mg A):fU P w K mg base mU 2 A.uc A.kI ou (Z1 A):=(by apply aj:aa (by
 have Mq:=Rq (base:=base) T;refine T.tU.ok rA (λvs H Q E h=>?_) (λcdv A' outer s H vs Q E hr h=>?_)
 ·obtain ⟨b,N,B,es,L,S,rfl,_⟩:=h;rfl
 ·obtain ⟨b,N,B,es,L,S,rfl,hB,q⟩:=h;refine ⟨_,(aL (lL 1 rA.nd (cZ (aq (cH wM rfl T.jG bI (aq (aO (pv 0) rfl) aG)) aG)))
   (aL (ab4 (Hi ji rfl (ai1 (aO (pv 0) rfl)) (eZ (i:=2) rA.nd rfl (dZ rfl)) (aK (jn (rM bY fj fc nA (pv 1) (aq (Fo (pv 2) T.d7 T.Rt Mq (hr.mono (by decide)) T.Dn .nil dz) aG))))))
   (aK (bB (pv 1))))),?_⟩
  obtain ⟨BV,hb⟩:=hB.bk;walk_at "rd";refine ⟨_,_,_,hb,T.cN,T.fG,_,rfl,_,rfl,_,hB.pl,by rw [sizeLine_eq];omega,λD hD=>?_⟩;have hDp:L.pl≠D:=λz=>by rw [<-z,hB.pl] at hD;cases hD
  have hkl:(eE B.places L.ps).length=B.places.length:=by unfold eE;rw [iT,hB.yE,xM]
  rw [hkl];unfold ahw;refine ⟨L.pl,.dK (eE B.places L.ps),by rw [aF hDp];exact hB.pl,trivial,λod=>?_⟩;have hk1:∀x o,H x=some o->x≠L.pl->(upd (upd H D (.lst [V.int ((B.places.length:Nat):Int)])) L.pl (.xZ od (.dK (eE B.places L.ps)))) x=some o:=λx o h hx=>by
   rw [aF hx,aF (λz=>by rw [z,hD] at h;cases h)];exact h
  have hp1:(upd (upd H D (.lst [V.int ((B.places.length:Nat):Int)])) L.pl (.xZ od (.dK (eE B.places L.ps)))) L.pl=some (.xZ od (.dK (eE B.places L.ps))):=aD;have hd1:(upd (upd H D (.lst [V.int ((B.places.length:Nat):Int)])) L.pl (.xZ od (.dK (eE B.places L.ps)))) D=some (.lst (bV [B.places.length])):=by rw [aF (cO hDp),aD];rfl
  revert hk1 hp1 hd1;generalize (upd (upd H D (.lst [V.int ((B.places.length:Nat):Int)])) L.pl (.xZ od (.dK (eE B.places L.ps))))=H1;intro hk1 hp1 hd1;have hps:B.places.length<=12:=hB.ok.ps;have hme:B.metals.length<=2:=hB.ok.me;unfold aqB aoh;walk_at "rd";have hb1:=hk1 _ _ hb (dC hb hB.pl (by intro z;cases z));refine ⟨_,_,_,hb1,T.cN,T.fG,_,rfl,_,rfl,_,_,hp1,?_⟩;refine ⟨λi m σ H'=>m=B.places.length - i/\i<=B.places.length/\(∃v,σ=[some (.ref b),some (.ref D),v])/\H' L.pl=some (.xZ od (.dK (eE B.places L.ps)))/\H' D=some (.lst (bV (B.places.length::(B.places.take i).flatMap v9)))/\((B.places.take i).flatMap v9).length<=4*i/\∀x o,H x=some o->x≠L.pl->H' x=some o,⟨_,rfl,eX _,⟨_,rfl⟩,hp1,hd1,aU _,hk1⟩,?_⟩;rintro i m σ H2 ⟨rfl,hi,⟨v,rfl⟩,hp2,hd2,hl2,hk2⟩;by_cases hlt:i<B.places.length
  ·refine .inr ⟨⟨hp2,by rw [hkl];exact hlt⟩,λσ' H'=>∃m',m'<B.places.length - i/\(m'=B.places.length - (i+1)/\i+1<=B.places.length/\(∃v,σ'=[some (.ref b),some (.ref D),v])/\H' L.pl=some (.xZ od (.dK (eE B.places L.ps)))/\H' D=some (.lst (bV (B.places.length::(B.places.take (i+1)).flatMap v9)))/\((B.places.take (i+1)).flatMap v9).length<=4*(i+1)/\∀x o,H x=some o->x≠L.pl->H' x=some o),λσ' H' h=>h,?_⟩;rintro x H' ⟨rfl,k,hx⟩;obtain ⟨p,a,la,hp,ha,rfl⟩:=af0 hx;have hP:=hB.pat i p a la hp ha;obtain ⟨dxp,hob⟩:=hP.ob;have hpm:=hB.ok.pm p (aM hp);have ho2:=hk2 _ _ hob (dC hob hB.pl (by intro z;cases z));have ha2:=hk2 _ _ hP.am (dC hP.am hB.pl (by intro z;cases z));walk_at "rd";refine ⟨.inl ⟨rfl,_,cY.of hd2⟩,_,_,ho2,rfl,?_⟩;refine ⟨a,dxp,i+1,p.kind,p.opened,la,p.kg::p.metals,rfl,ho2,ha2,by simp;omega,λD3 H3 hD3 s3 h3=>?_⟩;have hrl:(v9 p).length<=4:=by unfold v9;simp;omega
   have etk:(B.places.take (i+1)).flatMap v9=(B.places.take i).flatMap v9++v9 p:=by rw [take_succ hp,oF];simp
   refine ⟨D3,rfl,_,s3 _ _ hd2,_,h3,?_,?_⟩
   ·rw [ao,ao,sizeLine_eq];simp only [aH];unfold v9 at hrl;simp only [aH] at hrl;omega
   refine ⟨_,?_,rfl,by omega,?_,?_,?_,?_⟩
   ·omega
   ·rw [aF hDp];exact s3 _ _ hp2
   ·show _=some (HO.lst (bV (B.places.length::(B.places.take (i+1)).flatMap v9)));rw [aD,etk];have:bV (B.places.length::(B.places.take i).flatMap v9)++bV (qY p.kind::p.kg::p.metals)=bV (B.places.length::((B.places.take i).flatMap v9++v9 p)):=by
     rw [<-cT];rfl
    rw [this]
   ·rw [etk,aJ];omega
   ·intro x o h hx;rw [aF (λz=>by rw [z,hD] at h;cases h)];exact s3 _ _ (hk2 x o h hx)
  ·have hie:i=B.places.length:=by omega
   subst hie;refine .inl ⟨⟨hp2,by rw [hkl];exact aU _⟩,?_⟩;walk_at "rd";refine ⟨hp2,?_⟩;rw [lM] at hd2;refine q D _ hD (λx o h=>?_) (by rw [aF (cO hDp)];exact hd2);by_cases hx:x=L.pl
   ·rw [hx,aD];rw [hx,hB.pl] at h;exact h
   ·rw [aF hx];exact hk2 x o h hx))
end
end
section
theorem Vl:∀(ns l:List Int),l.Nodup->(ns.foldl step_dedup l).Nodup
 |[],l,h=>h
 |n::ns,l,h=>by
  refine Vl ns _ ?_;unfold step_dedup;split
  ·exact h
  ·rename_i q;rw [Jj];refine ⟨h,by simp,λa ha b hb=>?_⟩;rw [fJ] at hb;intro z;exact q (by rw [JX];exact ⟨a,ha,by rw [z,hb];simp⟩)
theorem YZ:∀(ns l:List Int),(l++ns).Nodup->ns.foldl step_dedup l=l++ns
 |[],l,h=>by simp
 |n::ns,l,h=>by
  have e:step_dedup l n=l++[n]:=by
   unfold step_dedup;rw [if_neg];intro z;obtain ⟨a,ha,q⟩:=JX.mp z;have:a=n:=by simpa using q
   subst this;exact (Jj.mp h).2.2 a ha a bz rfl
  rw [Ov,e,YZ ns (l++[n]) (by simpa using h)];simp
theorem aiW{ns ns':List Int}(hp:ns'.Perm (ns.foldl step_dedup []))(hs:ns'.Pairwise (· <=·)):ns=ns'↔ns.Pairwise (· <·):=(by apply aj:aa (by
 constructor
 ·intro e;subst e;have nd:ns.Nodup:=hp.nodup_iff.mpr (Vl ns [] xO);refine afB.imp₂ (λa b h1 h2=>?_) hs nd;omega
 ·intro h;have nd:ns.Nodup:=h.imp λq=>by omega
  rw [YZ ns [] (by simpa using nd),mO] at hp;exact (ahk.eq_of_pairwise (le:=(· <=·)) (λa b _ _ h1 h2=>by omega) hs (h.imp λq=>by omega) hp).symm))
theorem Xj:∀l:List (Nat×Nat),Ab l=true↔(l.map λx=>((x.1:Nat):Int)).Pairwise (· <·)
 |[]=>by simp [Ab]
 |[x]=>by simp [Ab]
 |x::y::r=>by
  have ih:=Xj (y::r);unfold Ab;rw [bf,decide_eq_true_eq,ih];simp only [bu,List.pairwise_cons,bc,cF];constructor
  ·rintro ⟨h1,h2,h3⟩;refine ⟨λa ha=>?_,h2,h3⟩;rcases ha with rfl | ⟨b,hb,rfl⟩
   ·omega
   ·have:=h2 _ ⟨b,hb,rfl⟩;omega
  ·rintro ⟨h1,h2,h3⟩;exact ⟨by have:=h1 _ (.inl rfl);omega,h2,h3⟩
theorem aef:∀us:List (List Nat),us.length%2=0->ev (us.map au)=(dq us).map (·.1)/\ev ((us.map au).drop 1)=(dq us).map (·.2)/\
  (dq us).flatMap (λx=>[x.1,x.2])=us.map au/\2*(dq us).length=us.length
 |[],_=>by simp [ev,dq]
 |[x],h=>by simp at h
 |[x,y],h=>by simp [ev,dq]
 |x::y::z::us,h=>by
  obtain ⟨h1,h2,h3,h4⟩:=aef (z::us) (by simp at h⊢;omega);refine ⟨?_,?_,?_,?_⟩
  ·simp only [bu,ev,dq] at h1⊢;rw [h1]
  ·simp only [bu,List.drop_succ_cons,oG,ev,dq] at h2⊢;rw [h2]
  ·simp only [bu,gw,dq,ZM,mO] at h3⊢;rw [h3]
  ·simp only [dq,aH] at h4⊢;omega
end
section
open PySem PySem.Spec PyProof.Rows
section
variable {P:Program} {w:World} {K:az} {mg:Str->Option Value} {base:Heap} {A:uw}
theorem YQ{α β:Type}(f:α->β):∀l:List α,ev (l.map f)=(ev l).map f
 |[]=>rfl
 |[x]=>rfl
 |x::y::r=>by simp only [bu,ev,YQ f r]
theorem Yu{H:Hp}:∀ns:List Int,Ms K H (ns.map V.int) (ns.map lX)
 |[]=>.nil
 |n::ns=>.cons (.int n) (Yu ns)
theorem aeX:∀ns ms:List Int,jx (ns.map lX) (ms.map lX)=decide (ns=ms)
 |[],[]=>by simp [jx]
 |[],m::ms=>by simp [jx]
 |n::ns,[]=>by simp [jx]
 |n::ns,m::ms=>by
  simp only [bu,jx,iQ,aeX ns ms,Ow];by_cases h:n=m<;>simp [h]
theorem Vi(ns:List Int):mW (.list (ns.map lX))=true:=(by apply aj:aa (by
 have h1:∀ns:List Int,iW (ns.map lX)=true:=λns=>by
  induction ns with
  |nil=>rfl
  |cons n ns ih=>simp [iW,PyData.canLay0,ih]
 have h2:∀ns:List Int,gM (ns.map lX)<=1:=λns=>by
  induction ns with
  |nil=>simp [gM]
  |cons n ns ih=>simp only [bu,gM,lJ];omega
 have e1:(Ai (ns.map lX)).canLay0=true:=by show iW (ns.map lX)=true;exact h1 ns
 have e2:(Ai (ns.map lX)).depth=gM (ns.map lX)+1:=by simp [lJ]
 have:=h2 ns;unfold mW;rw [e1,e2,decide_eq_true (by omega)];rfl))
theorem V5.sc{H:Hp}{L:Lay}{S S':Addr->Prop}{v:V}{m:Option bK}{c:Addr}(h:V5 A H L S v m)(hS:∀x,S x->S' x):V5 A H {L with sc:=c} S' v m:=by
 cases m with
 |none=>exact h
 |some m=>
  obtain ⟨ma,la,e,h1,h2,h3⟩:=h;exact ⟨ma,la,e,⟨h1.ob,h1.am,h1.ne⟩,hS _ h2,hS _ h3⟩
theorem bJ.aiX{N:Nat}{H:Hp}{b dx a:Addr}{B:aC}{es:List Nat}{L:Lay}{S:Addr->Prop}(T:Txt P w K mg A)(h:bJ A N H b B es L S){sl:List (Nat×Nat)}(hl:sl.length<=6)(hb:H b=some (.ins A.gh dx (Qt L.us L.me L.pl B.month L.sc L.re)))(ha:H a=some (.lst (bV (sl.flatMap λx=>[x.1,x.2]))))(hS:¬S a):
  bJ A N (upd H b (.ins A.gh dx (Qt L.us L.me L.pl B.month a L.re))) b {B with scale:=sl} es {L with sc:=a} (λx=>S x\/x=a):=(by apply aj:aa (by
 have ap:=h.Vm T;exact
 {ok:={h.ok with sc:=hl}
  bk:=⟨dx,aD⟩
  us:=by show upd H b _ L.us=_;rw [aF (dC h.us hb (by intro z;cases z))];exact h.us
  me:=by show upd H b _ L.me=_;rw [aF (dC h.me hb (by intro z;cases z))];exact h.me
  pl:=by show upd H b _ L.pl=_;rw [aF (dC h.pl hb (by intro z;cases z))];exact h.pl
  sc:=by show upd H b _ a=_;rw [aF (dC ha hb (by intro z;cases z))];exact ha
  re:=by show upd H b _ L.re=_;rw [aF (dC h.re hb (by intro z;cases z))];exact h.re
  yE:=h.yE
  Cr:=h.Cr
  esl:=h.esl
  pat:=h.Ku ap
  rat:=λi r c e e1 e2 e3=>by
   obtain ⟨d,u,v,q1,q2,q3⟩:=h.Ko (o:=.ins A.gh dx (Qt L.us L.me L.pl B.month a L.re)) ap i r c e e1 e2 e3;exact ⟨d,u,v,q1,q2.sc λx z=>.inl z,q3⟩
  Xw:=h.Xw
  Zx:=h.Zx
  ne:=⟨h.ne.1,λz=>hS (by have z:L.me=a:=z;rw [<-z];exact h.own.2.2.1),h.ne.2.2.1,λz=>hS (by have z:a=L.re:=z;rw [z];exact h.own.2.2.2.2.2.1)⟩
  Xv:=h.Xv
  own:=⟨.inl h.own.1,.inl h.own.2.1,.inl h.own.2.2.1,.inl h.own.2.2.2.1,.inr rfl,.inl h.own.2.2.2.2.2.1,λx hx=>⟨.inl (h.own.2.2.2.2.2.2.1 x hx).1,.inl (h.own.2.2.2.2.2.2.1 x hx).2⟩,λx hx=>.inl (h.own.2.2.2.2.2.2.2 x hx)⟩}))
theorem De(T:Txt P w K mg A):fU P w K mg base mU 1 A.BK A.uq Bj (Jp A "scale" Xp):=(by apply aj:aa (by
 refine T.Gu.ok Kd (λvs H Q E h=>?_) (λcdv A' outer s H vs Q E hr h=>?_)
 ·obtain ⟨b,r,a,N,B,es,L,S,dx,e,mo,u,us,rfl,_⟩:=h;rfl
 ·obtain ⟨b,r,a,N,B,es,L,S,dx,e,mo,u,us,rfl,hB,hN,hN2,hr1,hr2,ha1,ha2,hul,huw,⟨p1,p2,p3,p4⟩,q⟩:=h;refine ⟨_,(aL (lL 3 Kd.nd (M5 (pv 2) (gr bG) pM))
   (bw (lL 4 Kd.nd (M5 (pv 2) (gr bG) pM)))),?_⟩
  have ea:us.map Oj=bV (us.map au):=by
   show us.map Oj=(us.map au).map λn:Nat=>V.int (n:Int)
   rw [cG];exact gm λx hx=>yo (dH.mp p2 x hx)
  obtain ⟨e1,e2,e3,e4⟩:=aef us p3;rw [ea] at ha2;have t1:Ra (bV (us.map au)) (some 0) none 2=bV ((dq us).map (·.1)):=by
   have:=Q9 (bV (us.map au)) 0 (by decide);rw [oG] at this;rw [<-e1];refine this.trans (YQ _ _)
  have t2:Ra (bV (us.map au)) (some 1) none 2=bV ((dq us).map (·.2)):=by
   have:=Q9 (bV (us.map au)) 1 (by decide);rw [<-e2];refine this.trans ?_;rw [show (bV (us.map au)).drop 1=bV ((us.map au).drop 1) from Af.symm];exact YQ _ _
  have hb0:(!us.isEmpty&&(us.all aN&&decide (us.length%2=0)))=true:=by
   rw [p2,decide_eq_true p3];cases us with
   |nil=>exact absurd rfl p1
   |cons x r=>rfl
  rw [NK,hb0,decide_eq_true p4,FZ,FZ] at q;obtain ⟨BV,hb⟩:=hB.bk;walk_at "rd";refine ⟨_,cY.of ha2,λp hp=>?_⟩;rw [t1];have npa:a≠p:=λz=>by rw [<-z,ha2] at hp;cases hp
  refine ⟨_,cY.of (by rw [aF npa];exact ha2),λp' hp'=>?_⟩;rw [t2];have npp:p≠p':=λz=>by rw [<-z,aD] at hp';cases hp'
  have hS:bh H (upd (upd H p (.lst (bV ((dq us).map (·.1))))) p' (.lst (bV ((dq us).map (·.2))))):=(bh.new hp).X5 hp';have hf:(upd (upd H p (.lst (bV ((dq us).map (·.1))))) p' (.lst (bV ((dq us).map (·.2))))) p=some (.lst (bV ((dq us).map (·.1)))):=by rw [aF npp,aD]
  have hc:(upd (upd H p (.lst (bV ((dq us).map (·.1))))) p' (.lst (bV ((dq us).map (·.2))))) p'=some (.lst (bV ((dq us).map (·.2)))):=aD;revert hS hf hc;generalize (upd (upd H p (.lst (bV ((dq us).map (·.1))))) p' (.lst (bV ((dq us).map (·.2)))))=H1;intro hS hf hc;have ha3:=hS _ _ ha2;refine cz (bw (dW (PW.pt (pw_or (bZ O2 (cH cW rfl T.jG bI (aq (pv 2) aG)) (bH T.JN) (cP _)) (pw_or1 (bZ ahM (iG fP (pv 3) bG (λ_ _=>rfl)) bG (cP _))))) (aK (bB (bH T.kh))) b7)) ?_;walk_at "rd";refine ⟨_,.inl (cY.of ha3),?_⟩;have hlen:(bV (us.map au)).length=us.length:=by show ((us.map au).map _).length=_;simp
  rw [hlen];by_cases h12:us.length<=12
  ·rw [if_neg (by omega)];rw [decide_eq_true h12,dJ] at q;rw [<-e3] at ha2 ha3;revert q hf hc ha2 ha3 e4;generalize dq us=ps;intro ha2 q e4 hf hc ha3;cases ps with
   |nil=>cases us with
    |nil=>exact absurd rfl p1
    |cons x r=>simp at e4
   |cons x0 ps=>
    refine ⟨_,cY.of hf,V.int (x0.1:Int),fH (j:=0) rfl,rfl,!decide (x0.1=0),by by_cases h0:x0.1=0<;>simp [h0],?_⟩;by_cases h0:x0.1=0
    ·rw [decide_eq_true h0];rw [if_neg (by simp)];have hh:(Option.any (λx:Nat×Nat=>x.1==0) (x0::ps).head?)=true:=by simp [h0]
     rw [hh,dJ] at q;refine cz (bw (dW (bZ (aoY (ant hr)) (pv 3) (ace rfl rfl T.alq rfl T.aqZ (aq (pv 3) aG)) (cP _)) (aK (bB (bH T.kh))) b7)) ?_;walk_at "rd";unfold tSS;walk_at "rd";have hbf:bV ((x0::ps).map (·.1))=((x0::ps).map λx=>((x.1:Nat):Int)).map V.int:=by
      show (((x0::ps).map (·.1)).map _)=_;rw [cG,cG];rfl
     have hbc:bV ((x0::ps).map (·.2))=((x0::ps).map λx=>((x.2:Nat):Int)).map V.int:=by
      show (((x0::ps).map (·.2)).map _)=_;rw [cG,cG];rfl
     rw [hbf] at hf;rw [hbc] at hc;have hpl:(x0::ps).length<=6:=by omega
     refine ⟨_,cY.of hf,by rw [ao];omega,λns' p2 hq1 hq2 hp2=>?_⟩;have n2:p≠p2:=λz=>by rw [<-z,hf] at hp2;cases hp2
     have n3:p'≠p2:=λz=>by rw [<-z,hc] at hp2;cases hp2
     have hS2:bh H (upd H1 p2 (.lst (ns'.map V.int))):=hS.X5 hp2;unfold aqN;refine ⟨_,_,.lst (cY.of (by rw [aF n2];exact hf)) (Yu _),.lst (cY.of aD) (Yu _),Vi _,Vi _,?_⟩;have hf2:(upd H1 p2 (.lst (ns'.map V.int))) p=some (.lst (((x0::ps).map λx=>((x.1:Nat):Int)).map V.int)):=by rw [aF n2];exact hf
     have hc2:(upd H1 p2 (.lst (ns'.map V.int))) p'=some (.lst (((x0::ps).map λx=>((x.2:Nat):Int)).map V.int)):=by rw [aF n3];exact hc
     revert hS2 hf2 hc2;generalize (upd H1 p2 (.lst (ns'.map V.int)))=H2;intro hS2 hf2 hc2;have hev:iQ (.list (((x0::ps).map λx=>((x.1:Nat):Int)).map lX)) (.list (ns'.map lX))=decide (((x0::ps).map λx=>((x.1:Nat):Int))=ns'):=by
      rw [<-aeX];simp [iQ]
     rw [hev];refine ⟨_,rfl,?_⟩;have hri:=(aiW hq1 hq2).trans (Xj (x0::ps)).symm;by_cases hr0:Ab (x0::ps)=true
     ·rw [decide_eq_true (hri.mpr hr0),if_neg (by simp)];rw [hr0,dJ] at q;refine cz (bw (dW (PW.pt (pw_or (bZ O2 (cH (ami rfl) rfl T.ahS boot_max (aq (pv 3) aG)) (bH T.wJ) (cP _)) (pw_or1 (bZ O2 (cH (ami rfl) rfl T.ahS boot_max (aq (pv 4) aG)) (bH T.acD) (cP _))))) (aK (bB (bH T.kh))) b7)) ?_;walk_at "rd";refine ⟨_,cY.of hf2,by simp,λm hm hm2=>?_⟩;by_cases hk1:(1000000000000:Int)<m
      ·rw [if_pos hk1];have:((x0::ps).all λx=>decide (x.1<=eY)&&decide (x.2<=1000000000))=false:=by
        obtain ⟨y,hy,rfl⟩:=cF.mp hm;rw [List.all_eq_false];refine ⟨y,hy,?_⟩;rw [decide_eq_false (by unfold eY;omega)];simp
       rw [this,Np] at q;exact q H2 hS2
      ·rw [if_neg hk1];refine ⟨_,cY.of hc2,by simp,λm' hm' hm2'=>?_⟩;by_cases hk2:(1000000000:Int)<m'
       ·rw [if_pos hk2];have:((x0::ps).all λx=>decide (x.1<=eY)&&decide (x.2<=1000000000))=false:=by
         obtain ⟨y,hy,rfl⟩:=cF.mp hm';rw [List.all_eq_false];refine ⟨y,hy,?_⟩;have:decide (y.2<=1000000000)=false:=decide_eq_false (by omega);rw [this];simp
        rw [this,Np] at q;exact q H2 hS2
       ·rw [if_neg hk2];have:((x0::ps).all λx=>decide (x.1<=eY)&&decide (x.2<=1000000000))=true:=by
         rw [dH];intro y hy;have z1:=hm2 _ (cF.mpr ⟨y,hy,rfl⟩);have z2:=hm2' _ (cF.mpr ⟨y,hy,rfl⟩);rw [bf,decide_eq_true_eq,decide_eq_true_eq];exact ⟨by unfold eY;omega,by omega⟩
        rw [this,FZ,Pb] at q;have hb2:=hS2 _ _ hb;have hB2:=((hB.same hS2).aiX T hpl hb2 (hS2 _ _ ha2) ha1).more;refine cz (aL (gB (pv 0) (pv 2) rfl)
   (aK (bB (bH T.Bo)))) ?_;walk_at "rd"
        refine ⟨_,_,_,hb2,T.cN,T.vA,of_decide_eq_true rfl,?_⟩;have nbr:r≠b:=λz=>hr1 (by rw [z];exact hB.own.1);refine q _ ⟨⟨_,_,.non,hB2,rfl,by rw [aF nbr];exact hS2 _ _ hr2,λx hx=>?_⟩,λx o hx hSx hxr=>by rw [aF (λz=>hSx (by rw [z];exact hB.own.1))];exact hS2 x o hx⟩;rcases hx with hx | hx
        ·exact .inl hx
        ·exact .inr (.inr hx)
     ·rw [decide_eq_false λz=>hr0 (hri.mp z),if_pos (by simp)];have hr1:Ab (x0::ps)=false:=by simpa using hr0
      rw [hr1,eO,Np] at q;exact q H2 hS2
    ·rw [decide_eq_false h0,if_pos (by simp)];have hh:(Option.any (λx:Nat×Nat=>x.1==0) (x0::ps).head?)=false:=by simp [h0]
     rw [hh,eO,gj,Np] at q;exact q H1 hS
  ·rw [if_pos (by omega)];rw [decide_eq_false h12,eO,Np] at q;exact q H1 hS))
noncomputable abbrev iV (l:List Int):List V:=l.map V.int
inductive ap0(A:uw)(H:Hp)(d:Addr)(st:cB)(S:Addr->Prop):Prop
 |mk (dx j ta b:Addr) (N:Nat) (L:Lay) (S0:Addr->Prop) (_:H d=some (.ins A.mJ dx (JD j))) (_:gf A N H st.broken j ta b st L S0) (_:N+st.pending.length<=st.journal.length) (_:(∀x,S0 x->S x)) (_:S j) (_:S ta) (_:S d) (_:¬S0 d)
structure km(A:uw)(H:Hp)(d:Addr)(st:cB)(S:Addr->Prop):Prop where
 ex:ap0 A H d st S
 len:st.journal.length<=6000
 re:cU st.journal=st
 al:∀x,S x->H x≠none
theorem km.same{H H':Hp}{d:Addr}{st:cB}{S:Addr->Prop}(h:km A H d st S)(s:bh H H'):km A H' d st S where
 ex:=let ⟨dx,j,ta,b,N,L,S0,h1,h2,h3,h4,h5,h6,h7,h8⟩:=h.ex;⟨dx,j,ta,b,N,L,S0,s _ _ h1,h2.same s,h3,h4,h5,h6,h7,h8⟩
 len:=h.len
 re:=h.re
 al:=λx hx z=>by
  cases hh:H x with
  |none=>exact h.al x hx hh
  |some o=>rw [s x o hh] at z;cases z
theorem km.of{H:Hp}{d dx j ta b:Addr}{N:Nat}{L:Lay}{S0:Addr->Prop}{st:cB}(hd:H d=some (.ins A.mJ dx (JD j)))(hJ:gf A N H st.broken j ta b st L S0)(hN:N+st.pending.length<=st.journal.length)(hn:¬S0 d)(hl:st.journal.length<=6000)(hr:cU st.journal=st):km A H d st (λx=>(S0 x/\H x≠none)\/x=j\/x=ta\/x=d) where
 ex:=⟨dx,j,ta,b,N,L,_,hd,hJ.Oz,hN,λx h=>.inl h,.inr (.inl rfl),.inr (.inr (.inl rfl)),.inr (.inr (.inr rfl)),λz=>hn z.1⟩
 len:=hl
 re:=hr
 al:=λx hx=>by
  rcases hx with hx | rfl | rfl | rfl
  ·exact hx.2
  ·obtain ⟨Oi,e⟩:=hJ.ob;rw [e];simp
  ·rw [hJ.ha];simp
  ·rw [hd];simp
inductive pH(A:uw)(c:List Int->akx)(Pre:List Int->Prop)(vs:List V)(H:Hp)(Q:VK)(E:XK):Prop
 |mk (d a:Addr) (st:cB) (S:Addr->Prop) (args:List Int) (_:vs=[.ref d,.ref a]) (_:km A H d st S) (_:¬S a) (_:H a=some (.lst (iV args))) (_:args.length<=16000) (_:Pre args) (_:∀(D:Addr) (H':Hp) (S':Addr->Prop),km A H' d (bC st (c args)).1 S'->(∀x,S' x->S x\/H x=none)->(H D=none\/S D)->H' D=some (.lst (iV (bC st (c args)).2))->¬S' D->(∀x o,H x=some o->¬S x->H' x=some o)->Q (.ref D) H')
theorem eQ{H:Hp}{d:Addr}{st:cB}{S:Addr->Prop}{Q:V->Hp->Prop}{l:List Int}{x:cB×List Int}(hD:km A H d st S)(e:x=(st,l))(q:∀(D:Addr) (H':Hp) (S':Addr->Prop),km A H' d x.1 S'->(∀x,S' x->S x\/H x=none)->(H D=none\/S D)->H' D=some (.lst (iV x.2))->¬S' D->(∀x o,H x=some o->¬S x->H' x=some o)->Q (.ref D) H'):
  ∀(D:Addr) (H':Hp),bh H H'->H D=none->H' D=some (.lst (iV l))->Q (.ref D) H':=by
 subst e;intro D H' s h1 h2;exact q D H' S (hD.same s) (λx hx=>.inl hx) (.inl h1) h2 (λz=>hD.al D z h1) λx o h _=>s x o h
theorem RG(l:List Nat):iV (Vbmiam.ints l)=bV l:=by
 unfold Vbmiam.ints iV;rw [cG];rfl
theorem RD(l:List Nat):iV (qJ l)=V.int 0::bV l:=by
 unfold qJ;rw [<-RG];rfl
theorem oK{st:cB}{c:akx}(h:gk c=false):bC st c=(st,[-1]):=by
 unfold bC;rw [if_pos h]
inductive aiQ(K:az)(vs:List V)(H:Hp)(Q:VK)(E:XK):Prop
 |mk (a:Addr) (l:List Int) (_:vs=[.ref a]) (_:cY K H a (iV l)) (_:l.length<=sizeLine) (_:∀H',bh H H'->Q (.bl (gK l)) H')
noncomputable def al8:V->V
 |.int n=>.bl (decide (0<=n)&&decide (n<=255))
 |v=>v
theorem Fx(T:Txt P w K mg A):fU P w K mg base mU 1 A.vL A.lB pN (aiQ K):=(by apply aj:aa (by
 refine T.iB.ok tW (λvs H Q E h=>?_) (λcdv A' outer s H vs Q E hr h=>?_)
 ·obtain ⟨a,l,rfl,_⟩:=h;rfl
 ·obtain ⟨a,l,rfl,hs,hz,k⟩:=h;refine ⟨_,(aK (bB (cH (Y4 rfl) rfl T.aev boot_all (aq (yU rfl tW.nd (uU (pv 0)) (iJ (N:=Ds) (sc:=aX pL) (own:=[("number",1)]) (by decide+kernel)) (λ_ _ _ _ _=>(eZ (i:=1) tW.nd rfl (dZ rfl) (hf:=gF rfl))) (λ_ _ _ _ _=>kJ) (λ_ _ _ _ _=>(aed ni ni bG (pv 1) (bH T.Yq)))) aG)))),?_⟩;walk_at "rd";refine ⟨a,rfl,⟨_,hs⟩,FJ al8 hs (by rw [ao];exact hz) ?_ ?_⟩
  ·intro i x H' R hx s1 h;rw [aW,dO] at hx;obtain ⟨c,hc,rfl⟩:=hx;walk_at "rd";have h2:=h H' (bh.refl H');simp only [al8] at h2;split
   ·rename_i h1;rw [decide_eq_true h1,dJ] at h2;exact h2
   ·rename_i h1;rw [decide_eq_false h1,eO] at h2;exact h2
  ·intro D H' hD s1 h;have e:(iV l).map al8=(l.map λz=>iu 0 255 z).map V.bl:=by
    rw [cG,cG];rfl
   rw [e] at h;refine ⟨D,rfl,_,cY.of h,?_⟩;rw [tR];exact k H' s1))
inductive akY(vs:List V)(H:Hp)(Q:VK)(E:XK):Prop
 |mk (b:Bool) (_:vs=[.bl b]) (_:Q (.int ((if b=true then 1 else 0:Nat):Int)) H)
theorem Ft(T:Txt P w K mg A):fU P w K mg base mU 1 A.acN A.K9 Wb akY:=by
 refine T.zf.ok ak5 (λvs H Q E h=>?_) (λcdv A' outer s H vs Q E hr h=>?_)
 ·obtain ⟨b,rfl,_⟩:=h;rfl
 ·obtain ⟨b,rfl,q⟩:=h;refine ⟨_,(aK (bB (xX (lN (pv 0)) bG bG))),?_⟩;walk_at "rd";cases b<;>exact q
inductive abT(A:uw)(vs:List V)(H:Hp)(Q:VK)(E:XK):Prop
 |mk (p dx:Addr) (_:vs=[.ref p]) (_:H p=some (.ins A.mJ dx [])) (_:∀S H',km A H' p jz S->(∀x,S x->x=p\/H x=none)->QH p H H'->Q .non H')
theorem acx(T:Txt P w K mg A):fU P w K mg base mU 5 A.Li A.vK Dd (abT A):=(by apply aj:aa (by
 have Cp:=Ju (base:=base) T;refine T.J8.ok abZ (λvs H Q E h=>?_) (λcdv A' outer s H vs Q E hr h=>?_)
 ·obtain ⟨p,dx,rfl,_⟩:=h;rfl
 ·obtain ⟨p,dx,rfl,hp,q⟩:=h;refine ⟨_,(aK (gB (pv 0) (Rk T.X7 Cp (hr.mono (by decide)) rfl T.abb T.vU .nil dz) rfl)),?_⟩;walk_at "rd";intro j Oi hj0 hdx hne;refine ⟨j,Oi,rfl,aD,λta b L S H2 hJ hS RJ agx=>⟨rfl,?_⟩⟩;have hk1:∀x o,H x=some o->x≠j/\x≠Oi:=λx o h=>⟨λz=>(by rw [z,hj0] at h;cases h),λz=>(by rw [z,hdx] at h;cases h)⟩;have hk2:∀x o,H x=some o->H2 x=some o:=λx o h=>by
   obtain ⟨n1,n2⟩:=hk1 x o h;exact agx x o (by rw [aF n1,aF n2];exact h) n1
  have hnone:∀x,(upd (upd H Oi (.own j)) j (.ins A.dD Oi [])) x=none->H x=none:=λx hx=>by
   cases hh:H x with
   |none=>rfl
   |some o=>
    obtain ⟨n1,n2⟩:=hk1 x o hh;rw [aF n1,aF n2,hh] at hx;cases hx
  have nSp:¬S p:=λz=>by
   have:=hnone p (hS p z);rw [hp] at this;cases this
  have njp:j≠p:=λz=>by rw [z,hp] at hj0;cases hj0
  have ntp:ta≠p:=λz=>by
   have:=hnone ta RJ;rw [z,hp] at this;cases this
  refine ⟨_,_,_,hk2 _ _ hp,T.mH,T.cV,of_decide_eq_true rfl,?_⟩;have Yx:gf A 0 (upd H2 p (.ins A.mJ dx (dU (bA "journal") (V.ref j) []))) jz.broken j ta b jz L S:=hJ.keep λx o hx h=>by
   rw [aF]
   ·exact h
   ·intro z;rw [z] at hx;rcases hx with hx | hx | hx
    ·exact nSp hx
    ·exact njp hx.symm
    ·exact ntp hx.symm
  refine q _ _ (km.of (aD) Yx (by decide) nSp (by decide) adH) (λx hx=>?_) λx o h hxp=>by rw [aF hxp];exact hk2 x o h
  rcases hx with hx | rfl | rfl | rfl
  ·exact .inr (hnone x (hS x hx.1))
  ·exact .inr hj0
  ·exact .inr (hnone _ RJ)
  ·exact .inl rfl))
theorem same_none{H H':Hp}{x:Addr}(s:bh H H')(h:H' x=none):H x=none:=by
 cases hh:H x with
 |none=>rfl
 |some o=>rw [s x o hh] at h;cases h
theorem jh{H H1:Hp}{l:List Int}{Q:V->Hp->Prop}(k:∀(D:Addr) (H':Hp),bh H H'->H D=none->H' D=some (.lst (iV l))->Q (.ref D) H')(s:bh H H1):
  1<=sizeLine/\∀p,H1 p=none->Q (.ref p) (upd H1 p (.lst (iV l))):=⟨by rw [sizeLine_eq];decide,λp hp=>k p _ (s.X5 hp) (same_none s hp) aD⟩
theorem N6{H H2:Hp}{l:List Int}{xs ys:List V}{p D:Addr}{Q:V->Hp->Prop}(k:∀(D:Addr) (H':Hp),bh H H'->H D=none->H' D=some (.lst (iV l))->Q (.ref D) H')(s:bh H H2)(h1:H2 p=some (.lst xs))(h2:H2 D=some (.lst ys))(hz:xs.length+ys.length<=sizeLine)(e:xs++ys=iV l):
  ∃x1,H2 p=some (.lst x1)/\∃x2,H2 D=some (.lst x2)/\x1.length+x2.length<=sizeLine/\∀p3,H2 p3=none->Q (.ref p3) (upd H2 p3 (.lst (x1++x2))):=
 ⟨xs,h1,ys,h2,hz,λp3 hp3=>k p3 _ (s.X5 hp3) (same_none s hp3) (by rw [aD,e])⟩
theorem K6{l:List Int}(h:gK l=true):iV l=bV (dI l)/\(dI l).length=l.length:=by
 refine ⟨?_,by unfold dI;simp⟩;unfold dI;show l.map V.int=(l.map λz=>z.toNat).map λn:Nat=>V.int (n:Int)
 rw [cG];refine gm λz hz=>?_;have:=dH.mp h z hz;unfold iu at this;rw [bf,decide_eq_true_eq,decide_eq_true_eq] at this;show V.int z=V.int (z.toNat:Int);congr 1;omega
theorem aen(T:Txt P w K mg A):fU P w K mg base mU 2 A.pB A.nJ tD (pH A (λ_=>.status) λl=>l.length=0):=(by apply aj:aa (by
 have vV:=Ft (base:=base) T;refine T.sV.ok qO (λvs H Q E h=>?_) (λcdv A' outer s H vs Q E hr h=>?_)
 ·obtain ⟨d,a,st,S,args,rfl,_⟩:=h;rfl
 ·obtain ⟨d,a,st,S,args,rfl,hD,na,ha,hl,pre,q⟩:=h;refine ⟨_,(aL (lL 2 qO.nd (aO (pv 0) rfl))
   (aL (lL 3 qO.nd (cH cW rfl T.jG bI (aq (aO (pv 2) rfl) aG)))
   (aL (lL 4 qO.nd (fC DY (pv 3) (aO (pv 2) rfl)))
   (aK (bB (cZ (aq bG (aq (pv 3) (aq (pv 4) (aq (cJ vV (hr.mono (by decide)) rfl T.Nm T.zf.kp T.Dj .nil dz (aq (aO (pv 2) rfl) aG)) (aq (cH cW rfl T.jG bI (aq (aO (aO (pv 2) rfl) rfl) aG)) (aq (aO (aO (pv 2) rfl) rfl) aG)))))))))))),?_⟩
  obtain ⟨dx,j,ta,b,N,L,S0,hd,hJ,hN,hS0,sj,sta,sd,nd⟩:=hD.ex;obtain ⟨Oi,hj⟩:=hJ.ob;obtain ⟨BV,hb⟩:=hJ.bk.bk;have k:=eQ hD (x:=bC st .status) rfl q;have hpl:=hJ.pl;walk_at "rd";refine ⟨_,_,_,hd,T.mH,T.cV,_,rfl,_,rfl,_,_,_,hj,T.bR,T.eN,_,rfl,_,rfl,_,.inl (cY.of hJ.ha),_,rfl,_,_,_,hj,T.bR,T.ie,_,rfl,_,rfl,
   _,rfl,_,_,_,hj,T.bR,T.jo,_,rfl,_,rfl,_,rfl,_,_,_,hj,T.bR,T.cI,_,rfl,_,rfl,_,_,_,hb,T.cN,T.fD,_,rfl,_,rfl,_,.inl (cY.of hJ.bk.re),
   _,rfl,_,_,_,hj,T.bR,T.cI,_,rfl,_,rfl,_,_,_,hb,T.cN,T.jR,_,rfl,by rw [sizeLine_eq];decide,λp hp=>k p _ (bh.new hp) hp ?_⟩
  rw [aD,RD];have e1:((bV st.journal).length:Int)=(st.journal.length:Int):=by simp
  have e2:((bV st.journal).length:Int) - ((st.journal.length - st.pending.length:Nat):Int)=(st.pending.length:Int):=by rw [e1];omega
  have e3:((L.rs.map V.ref).length:Int)=(st.books.records.length:Int):=by rw [ao,hJ.bk.Cr]
  rw [e2,e1,e3];rfl))
theorem agj(T:Txt P w K mg A):fU P w K mg base mU 1 A.qF A.o9 vm (pH A (λl=>.bytes (l.getD 0 0) (l.getD 1 0)) λl=>l.length=2):=(by apply aj:aa (by
 refine T.uN.ok yw (λvs H Q E h=>?_) (λcdv A' outer s H vs Q E hr h=>?_)
 ·obtain ⟨d,a,st,S,args,rfl,_⟩:=h;rfl
 ·obtain ⟨d,a,st,S,args,rfl,hD,na,ha,hl,pre,q⟩:=h;refine ⟨_,(aL (lL 2 yw.nd (iG fP (pv 1) bG (λ_ _=>rfl)))
   (bw (lL 3 yw.nd (iG fP (pv 1) bG (λ_ _=>rfl))))),?_⟩
  obtain ⟨dx,j,ta,b,N,L,S0,hd,hJ,hN,hS0,sj,sta,sd,nd⟩:=hD.ex;obtain ⟨Oi,hj⟩:=hJ.ob;obtain ⟨x,y,rfl⟩:∃x y,args=[x,y]:=by
   match args,pre with
   |[x,y],_=>exact ⟨x,y,rfl⟩
  have q:∀(D:Addr) (H':Hp) (S':Addr->Prop),km A H' d (bC st (.bytes x y)).1 S'->(∀x,S' x->S x\/H x=none)->(H D=none\/S D)->H' D=some (.lst (iV (bC st (.bytes x y)).2))->¬S' D->
   (∀x o,H x=some o->¬S x->H' x=some o)->Q (.ref D) H':=q
  walk_at "rd";refine ⟨_,cY.of ha,V.int x,fH (j:=0) rfl,_,cY.of ha,V.int y,fH (j:=1) rfl,?_⟩;refine cz (bw (dW (PW.pt (pw_or (kO (qd ni ni bG (pv 2) (bH T.Hw))) (pw_or1 (kO (qd ni ni bG (pv 3) (bH T.Qk)))))) (aK (bB (cZ (aq (bH T.iI) aG)))) b7)) ?_;walk_at "rd";have out:(¬(0<=x/\x<=6000)\/¬(0<=y/\y<=1000))->∀(D:Addr) (H':Hp),bh H H'->H D=none->H' D=some (.lst (iV [-1]))->Q (.ref D) H':=λhh=>by
   refine eQ hD (oK ?_) q;unfold gk iu;simp only [jP,decide_eq_false_iff_not];omega
  by_cases x0:0<=x
  ·rw [if_pos x0];by_cases x1:x<=6000
   ·rw [if_neg (by simpa using x1)];by_cases y0:0<=y
    ·rw [if_pos y0];by_cases y1:y<=1000
     ·rw [if_neg (by simpa using y1)];have hst:bC st (.bytes x y)=(st,qJ ((st.journal.drop x.toNat).take y.toNat)):=by
       unfold bC;rw [if_neg];unfold gk iu;simp [x0,x1,y0,y1]
      have k:=eQ hD hst q;refine cz (aK (bB (fC qg (cZ (aq bG aG)) (jF lF (aO (aO (pv 0) rfl) rfl) (gr (pv 2)) (gr (fC kW (pv 2) (pv 3))))))) ?_;walk_at "rd";refine ⟨by rw [sizeLine_eq];decide,λp hp=>?_⟩;have s1:bh H (upd H p (.lst [V.int 0])):=bh.new hp;have hp1:(upd H p (.lst [V.int 0])) p=some (.lst [V.int 0]):=aD;revert s1 hp1;generalize (upd H p (.lst [V.int 0]))=H1;intro s1 hp1;refine ⟨_,_,_,s1 _ _ hd,T.mH,T.cV,_,rfl,_,rfl,_,_,_,s1 _ _ hj,T.bR,T.eN,_,rfl,_,rfl,_,cY.of (s1 _ _ hJ.ha),λp2 hp2=>?_⟩;have ec:ym (bV st.journal) (some x) (some (x+y))=bV ((st.journal.drop x.toNat).take y.toNat):=by
       have e1:x=((x.toNat:Nat):Int):=by omega
       have e2:x+y=((x.toNat+y.toNat:Nat):Int):=by omega
       rw [e2]
       conv=>lhs;rw [e1]
       rw [gA,Ln,Y8];congr 2;omega
      rw [ec];have n12:p≠p2:=λz=>by rw [<-z,hp1] at hp2;cases hp2
      refine N6 k (s1.X5 hp2) (by rw [aF n12];exact hp1) aD ?_ ?_
      ·rw [sizeLine_eq];have:=hD.len;simp only [ao,bO,cA,aH,bF];omega
      ·rw [RD];rfl
     ·rw [if_pos (by simpa using y1)];exact jh (out (by omega)) (bh.refl H)
    ·rw [if_neg y0];exact jh (out (by omega)) (bh.refl H)
   ·rw [if_pos (by simpa using x1)];exact jh (out (by omega)) (bh.refl H)
  ·rw [if_neg x0];exact jh (out (by omega)) (bh.refl H)))
theorem ab3(l:List dw):bV (l.length::l.flatMap v9)=V.int (l.length:Int)::iV (l.flatMap pU):=by
 show V.int (l.length:Int)::bV (l.flatMap v9)=_;congr 1
 induction l with
 |nil=>rfl
 |cons p l ih=>
  rw [gw,gw];show (v9 p++l.flatMap v9).map _=(pU p++l.flatMap pU).map V.int;rw [cT,cT];congr 1;unfold v9 pU;simp only [bu];congr 2;exact (RG p.metals).symm
theorem acv(T:Txt P w K mg A):fU P w K mg base mU 3 A.nP A.my qR (pH A (λ_=>.balance) λl=>l.length=0):=(by apply aj:aa (by
 have oE:=O3 (base:=base) T;refine T.qN.ok Rh (λvs H Q E h=>?_) (λcdv A' outer s H vs Q E hr h=>?_)
 ·obtain ⟨d,a,st,S,args,rfl,_⟩:=h;rfl
 ·obtain ⟨d,a,st,S,args,rfl,hD,na,ha,hl,pre,q⟩:=h;refine ⟨_,(aK (bB (fC qg (cZ (aq bG aG)) (Fo (aO (aO (pv 0) rfl) rfl) T.cN T.rC oE (hr.mono (by decide)) T.lD .nil dz)))),?_⟩;obtain ⟨dx,j,ta,b,N,L,S0,hd,hJ,hN,hS0,sj,sta,sd,nd⟩:=hD.ex;obtain ⟨Oi,hj⟩:=hJ.ob;obtain ⟨BV,hb⟩:=hJ.bk.bk;have k:=eQ hD (x:=bC st .balance) rfl q;walk_at "rd";refine ⟨by rw [sizeLine_eq];decide,λp hp=>?_⟩;have s1:bh H (upd H p (.lst [V.int 0])):=bh.new hp;have hp1:(upd H p (.lst [V.int 0])) p=some (.lst [V.int 0]):=aD;revert s1 hp1;generalize (upd H p (.lst [V.int 0]))=H1;intro s1 hp1;refine ⟨_,_,_,s1 _ _ hd,T.mH,T.cV,_,rfl,_,rfl,_,_,_,s1 _ _ hj,T.bR,T.cI,_,rfl,_,rfl,_,_,s1 _ _ hb,rfl,b,N,st.books,st.ends,L,S0,rfl,hJ.bk.same s1,λD H2 Zz s2 h2=>?_⟩;have hle:(st.books.places.flatMap v9).length<=12*4:=by
   have key:∀l:List dw,(∀x∈l,x.metals.length<=2)->(l.flatMap v9).length<=l.length*4:=λl=>by
    induction l with
    |nil=>simp
    |cons x l ih=>
     intro hh;have i1:=ih λy hy=>hh y (aV _ hy);have i2:=hh x bz;rw [gw,aJ];have:(v9 x).length=x.metals.length+2:=by unfold v9;simp
     simp only [aH];omega
   have:=key st.books.places λx hx=>by rw [hJ.bk.ok.pm x hx];exact hJ.bk.ok.me
   have:=hJ.bk.ok.ps;omega
  refine ⟨D,rfl,_,s2 _ _ hp1,_,h2,?_,λp3 hp3=>?_⟩
  ·rw [sizeLine_eq];simp only [ao,aH,bF];omega
  ·refine k p3 _ ((s1.trans s2).X5 hp3) (same_none (s1.trans s2) hp3) ?_;rw [aD,ab3];rfl))
theorem alh(T:Txt P w K mg A):fU P w K mg base mU 2 A.vM A.sr zO (pH A (λl=>.sum_ l) λl=>l.length<=3000):=(by apply aj:aa (by
 have gP:=Fx (base:=base) T;have Mm:=TY (base:=base) T;refine T.zr.ok aae (λvs H Q E h=>?_) (λcdv A' outer s H vs Q E hr h=>?_)
 ·obtain ⟨d,a,st,S,args,rfl,_⟩:=h;rfl
 ·obtain ⟨d,a,st,S,args,rfl,hD,na,ha,hl,pre,q⟩:=h;refine ⟨_,(aL (dW (kO (lN (cJ gP (hr.mono (by decide)) rfl T.mj T.iB.kp T.jr .nil dz (aq (pv 1) aG)))) (aK (bB (cZ (aq (bH T.iI) aG)))) b7)
   (aK (bB (cZ (aq bG (aq (cJ Mm (hr.mono (by decide)) rfl T.YB T.Fi.kp T.Lw .nil dz (aq (pv 1) aG)) aG)))))),?_⟩
  walk_at "rd";refine ⟨a,args,rfl,cY.of ha,by rw [sizeLine_eq];omega,λH1 s1=>⟨_,rfl,?_⟩⟩;cases hb:gK args with
  |false=>
   rw [if_pos rfl];exact jh (eQ hD (oK (c:=.sum_ args) hb) q) s1
  |true=>
   rw [if_neg (by simp)];obtain ⟨e1,e2⟩:=K6 hb;have hst:bC st (.sum_ args)=(st,qJ [xK (dI args)]):=by
    unfold bC;rw [if_neg (by show ¬gK args=false;rw [hb];simp)]
   have k:=eQ hD hst q;refine ⟨a,_,rfl,cY.of (by rw [<-e1];exact s1 _ _ ha),by rw [e2,sizeLine_eq];omega,λH2 s2=>⟨by rw [sizeLine_eq];decide,λp hp=>k p _ ((s1.trans s2).X5 hp) (same_none (s1.trans s2) hp) ?_⟩⟩;rw [aD];rfl))
theorem aj1{H H3:Hp}{d dx j ta b p:Addr}{N:Nat}{L:Lay}{S S2:Addr->Prop}{st':cB}{x:cB×List Int}{l:List Int}{Q:V->Hp->Prop}(e:x=(st',l))(q:∀(D:Addr) (H':Hp) (S':Addr->Prop),km A H' d x.1 S'->(∀x,S' x->S x\/H x=none)->(H D=none\/S D)->H' D=some (.lst (iV x.2))->¬S' D->(∀x o,H x=some o->¬S x->H' x=some o)->Q (.ref D) H')(hd:H3 d=some (.ins A.mJ dx (JD j)))(hJ:gf A N H3 st'.broken j ta b st' L S2)(hN:N+st'.pending.length<=st'.journal.length)(nd:¬S2 d)(hl:st'.journal.length<=6000)(hr:cU st'.journal=st')(hp:H3 p=none)(own:∀x,S2 x\/x=j\/x=ta\/x=d->S x\/H x=none)(hal:∀x o,H x=some o->¬S x->H3 x=some o):
  Q (.ref p) (upd H3 p (.lst (iV l))):=(by apply aj:aa (by
 subst e;have s3:bh H3 (upd H3 p (.lst (iV l))):=bh.new hp;have Yx:=hJ.Oz;obtain ⟨Oi,hj⟩:=hJ.ob;refine q p _ _ (km.of (s3 _ _ hd) (Yx.same s3) hN (λz=>nd z.1) hl hr) (λy hy=>?_) ?_ aD ?_ λy o h hy=>s3 _ _ (hal y o h hy)
 ·refine own y ?_;rcases hy with hy | hy
  ·exact .inl hy.1.1
  ·exact .inr hy
 ·cases hh:H p with
  |none=>exact .inl rfl
  |some o=>
   by_cases hx:S p
   ·exact .inr hx
   ·rw [hal p o hh hx] at hp;cases hp
 ·intro hx;rcases hx with hx | hx | hx | hx
  ·exact hx.1.2 hp
  ·rw [hx,hj] at hp;cases hp
  ·rw [hx,hJ.ha] at hp;cases hp
  ·rw [hx,hd] at hp;cases hp))
theorem ai7(T:Txt P w K mg A):fU P w K mg base mU 8 A.sJ A.qp xr (pH A (λl=>.feed l) λl=>l.length<=3000):=(by apply aj:aa (by
 have gP:=Fx (base:=base) T;have vV:=Ft (base:=base) T;have Cm:=ahO (base:=base) T (xF T (De T));refine T.wX.ok Ax (λvs H Q E h=>?_) (λcdv A' outer s H vs Q E hr h=>?_)
 ·obtain ⟨d,a,st,S,args,rfl,_⟩:=h;rfl
 ·obtain ⟨d,a,st,S,args,rfl,hD,na,ha,hl,pre,q⟩:=h;refine ⟨_,(aL (lL 2 Ax.nd (aO (pv 0) rfl))
   (aL (dW (kO (lN (cJ gP (hr.mono (by decide)) rfl T.mj T.iB.kp T.jr .nil dz (aq (pv 1) aG)))) (aK (bB (cZ (aq (bH T.iI) aG)))) b7)
   (aL (dW (lN (aO (pv 2) rfl)) (aK (bB (cZ (aq (bH T.aeF) aG)))) b7)
   (aL (dW (bZ O2 (fC kW (cH cW rfl T.jG bI (aq (aO (pv 2) rfl) aG)) (cH cW rfl T.jG bI (aq (pv 1) aG))) (bH T.Hw) (cP _)) (aK (bB (cZ (aq (bH T.agr) aG)))) b7)
   (aL (lL 3 Ax.nd (Hj (pv 2) T.bR T.Jx Cm (hr.mono (by decide)) T.vR .nil dz (aq (pv 1) aG)))
   (aK (bB (fC qg (cZ (aq bG (aq (cJ vV (hr.mono (by decide)) rfl T.Nm T.zf.kp T.Dj .nil dz (aq (aO (pv 2) rfl) aG)) (aq (cH cW rfl T.jG bI (aq (pv 3) aG)) aG)))) (pv 3))))))))),?_⟩
  obtain ⟨dx,j,ta,b,N,L,S0,hd,hJ,hN,hS0,sj,sta,sd,nd⟩:=hD.ex;obtain ⟨Oi,hj⟩:=hJ.ob;walk_at "rd";refine ⟨_,_,_,hd,T.mH,T.cV,_,rfl,a,args,rfl,cY.of ha,by rw [sizeLine_eq];omega,λH1 s1=>⟨_,rfl,?_⟩⟩;cases hb:gK args with
  |false=>
   rw [if_pos rfl];exact jh (eQ hD (oK (c:=.feed args) hb) q) s1
  |true=>
   rw [if_neg (by simp)];obtain ⟨e1,e2⟩:=K6 hb;have hst:bC st (.feed args)=if st.broken=true then (st,[-2]) else if ado<st.journal.length+args.length then (st,[-3]) else
     (gW st (dI args),qJ ((if (gW st (dI args)).broken=true then 1 else 0)::(mV (gW st (dI args)).books st.books.records.length).length::
      mV (gW st (dI args)).books st.books.records.length)):=by
    unfold bC;rw [if_neg (by show ¬gK args=false;rw [hb];simp)]
   refine ⟨_,rfl,_,_,_,s1 _ _ hj,T.bR,T.jo,_,rfl,_,rfl,?_⟩;cases hbr:st.broken with
   |true=>
    rw [if_pos rfl];rw [hbr,if_pos rfl] at hst;exact jh (eQ hD hst q) s1
   |false=>
    rw [if_neg (by simp)];rw [hbr,if_neg (by simp)] at hst;refine ⟨_,rfl,_,_,_,s1 _ _ hj,T.bR,T.eN,_,rfl,_,rfl,_,.inl (cY.of (s1 _ _ hJ.ha)),_,.inl (cY.of (s1 _ _ ha)),?_⟩;have l1:((bV st.journal).length:Int)=(st.journal.length:Int):=by simp
    have l2:((iV args).length:Int)=(args.length:Int):=by simp
    rw [l1,l2];by_cases hlen:6000<st.journal.length+args.length
    ·rw [if_pos (by omega)];rw [if_pos (show ado<_ from hlen)] at hst;exact jh (eQ hD hst q) s1
    ·rw [if_neg (by omega)];rw [if_neg (show ¬ado<_ from hlen)] at hst;have q:∀(D:Addr) (H':Hp) (S':Addr->Prop),km A H' d (bC st (.feed args)).1 S'->(∀x,S' x->S x\/H x=none)->(H D=none\/S D)->H' D=some (.lst (iV (bC st (.feed args)).2))->¬S' D->
      (∀x o,H x=some o->¬S x->H' x=some o)->Q (.ref D) H':=q
     rw [hst] at q;have hJ1:=hJ.same s1;rw [hbr] at hJ1;refine ⟨j,rfl,_,_,s1 _ _ hj,rfl,j,ta,b,a,N,st,L,S0,dI args,rfl,hJ1,hN,hbr,by rw [<-e1];exact s1 _ _ ha,by rw [e2];omega,λD H2 ⟨N',L',S',Yx,hN2,hS2,nD⟩ hD1 hD2 hfr=>?_⟩;have Yx:=Yx.Oz;have hT2:∀x,(λx=>S' x/\H2 x≠none) x->H2 x≠none:=λx z=>z.2;have hS2:∀x,(λx=>S' x/\H2 x≠none) x->S0 x\/H1 x=none:=λx z=>hS2 x z.1;generalize (λx=>S' x/\H2 x≠none)=S2 at Yx hT2 hS2;obtain ⟨arI,hj2⟩:=Yx.ob;refine ⟨j,rfl,_,_,_,hj2,T.bR,T.jo,_,rfl,_,rfl,D,rfl,_,.inl (cY.of hD2),by rw [sizeLine_eq];decide,λp hp=>⟨D,rfl,?_⟩⟩;have npD:D≠p:=λz=>by rw [<-z,hD2] at hp;cases hp
     have hcl:(mV (gW st (dI args)).books st.books.records.length).length<=6000:=by
      have z1:=Yx.nl;have z2:=K8 (dI args) hbr;have z3:(gW st (dI args)).journal.length=st.journal.length+args.length:=by rw [z2,aJ,e2]
      unfold mV;rw [ao,cA];omega
     refine ⟨_,aD,_,by rw [aF npD];exact hD2,?_,λp1 hp1=>?_⟩
     ·rw [sizeLine_eq];simp only [ao,aH,bF];omega
     have ndj:d≠j:=dC hd hj (by intro z;injection z with z1 _ _;exact T.VP z1.symm);have ndt:d≠ta:=dC hd hJ.ha (by intro z;cases z);have hd2:H2 d=some (.ins A.mJ dx (JD j)):=hfr d _ (s1 _ _ hd) nd ndj ndt;have s3:=(bh.new hp (o:=.lst [V.int 0,V.int ((if (gW st (dI args)).broken=true then 1 else 0:Nat):Int),V.int ((bV (mV (gW st (dI args)).books st.books.records.length)).length:Int)])).X5 hp1
      (o:=.lst ([V.int 0,V.int ((if (gW st (dI args)).broken=true then 1 else 0:Nat):Int),V.int ((bV (mV (gW st (dI args)).books st.books.records.length)).length:Int)]++bV (mV (gW st (dI args)).books st.books.records.length)))
     have Hy:H2 p1=none:=by
      have n:p1≠p:=λz=>by rw [z,aD] at hp1;cases hp1
      rw [aF n] at hp1;exact hp1
     have n2:¬S2 d:=λz=>by
      rcases hS2 d z with z | z
      ·exact nd z
      ·rw [s1 _ _ hd] at z;cases z
     have hal:∀x o,H x=some o->¬S x->H2 x=some o:=λx o h hx=>hfr x o (s1 x o h) (λz=>hx (hS0 x z)) (λz=>hx (by rw [z];exact sj)) λz=>hx (by rw [z];exact sta);have hH1:H p1=none\/S p1:=by
      cases hh:H p1 with
      |none=>exact .inl rfl
      |some o=>
       by_cases hx:S p1
       ·exact .inr hx
       ·rw [hal p1 o hh hx] at Hy;cases Hy
     refine q p1 _ _ (km.of (s3 _ _ hd2) (Yx.same s3) hN2 n2 ?_ (ajP _ hD.re hbr)) (λx hx=>?_) hH1 ?_ ?_ λx o h hx=>s3 _ _ (hal x o h hx)
     ·rw [K8 _ hbr,aJ,e2];omega
     ·rcases hx with hx | rfl | rfl | rfl
      ·rcases hS2 x hx.1 with z | z
       ·exact .inl (hS0 x z)
       ·exact .inr (same_none s1 z)
      ·exact .inl sj
      ·exact .inl sta
      ·exact .inl sd
     ·rw [aD,RD];simp
     ·intro hx;rcases hx with hx | hx | hx | hx
      ·exact hT2 p1 hx.1 Hy
      ·rw [hx,hj2] at Hy;cases Hy
      ·rw [hx,Yx.ha] at Hy;cases Hy
      ·rw [hx,hd2] at Hy;cases Hy))
theorem ali(T:Txt P w K mg A):fU P w K mg base mU 9 A.vN A.su zP (pH A (λl=>.cut (l.getD 0 0)) λl=>l.length=1):=(by apply aj:aa (by
 have vV:=Ft (base:=base) T;have qX:=Ea (base:=base) T (xF T (De T));refine T.zu.ok OJ (λvs H Q E h=>?_) (λcdv A' outer s H vs Q E hr h=>?_)
 ·obtain ⟨d,a,st,S,args,rfl,_⟩:=h;rfl
 ·obtain ⟨d,a,st,S,args,rfl,hD,na,ha,hl,pre,q⟩:=h;refine ⟨_,(bw (lL 2 OJ.nd (iG fP (pv 1) bG (λ_ _=>rfl)))),?_⟩;obtain ⟨dx,j,ta,b,N,L,S0,hd,hJ,hN,hS0,sj,sta,sd,nd⟩:=hD.ex;obtain ⟨Oi,hj⟩:=hJ.ob;obtain ⟨x,rfl⟩:∃x,args=[x]:=by
   match args,pre with
   |[x],_=>exact ⟨x,rfl⟩
  have q:∀(D:Addr) (H':Hp) (S':Addr->Prop),km A H' d (bC st (.cut x)).1 S'->(∀x,S' x->S x\/H x=none)->(H D=none\/S D)->H' D=some (.lst (iV (bC st (.cut x)).2))->¬S' D->
   (∀x o,H x=some o->¬S x->H' x=some o)->Q (.ref D) H':=q
  walk_at "rd";refine ⟨_,cY.of ha,V.int x,fH (j:=0) rfl,?_⟩;refine cz (bw (dW (kO (qd ni ni bG (pv 2) (bH T.Hw))) (aK (bB (cZ (aq (bH T.iI) aG)))) b7)) ?_;walk_at "rd";have out:¬(0<=x/\x<=6000)->∀(D:Addr) (H':Hp),bh H H'->H D=none->H' D=some (.lst (iV [-1]))->Q (.ref D) H':=λhh=>by
   refine eQ hD (oK ?_) q;unfold gk iu;simp only [jP,decide_eq_false_iff_not];omega
  by_cases x0:0<=x
  ·rw [if_pos x0];by_cases x1:x<=6000
   ·rw [if_neg (by simpa using x1)];have hst:bC st (.cut x)=if st.journal.length<x.toNat then (st,[-4]) else (cU (st.journal.take x.toNat),qJ [(cU (st.journal.take x.toNat)).books.records.length,if (cU (st.journal.take x.toNat)).broken=true then 1 else 0]):=by
     unfold bC;rw [if_neg];unfold gk iu;simp [x0,x1]
    refine cz (bw (dW (bZ Kv (cH cW rfl T.jG bI (aq (aO (aO (pv 0) rfl) rfl) aG)) (pv 2) (cP _)) (aK (bB (cZ (aq (bH T.aeD) aG)))) b7)) ?_;walk_at "rd";refine ⟨_,_,_,hd,T.mH,T.cV,_,rfl,_,rfl,_,_,_,hj,T.bR,T.eN,_,rfl,_,rfl,_,.inl (cY.of hJ.ha),?_⟩;have l1:((bV st.journal).length:Int)=(st.journal.length:Int):=by simp
    rw [l1];by_cases hlen:st.journal.length<x.toNat
    ·rw [if_pos (by omega)];rw [if_pos hlen] at hst;exact jh (eQ hD hst q) (bh.refl H)
    ·rw [if_neg (by omega)];rw [if_neg hlen] at hst;refine cz (bw (gB (pv 0) (hld (cJ qX (hr.mono (by decide)) rfl T.zW T.nR.kp T.qW .nil dz (aq (jF lF (aO (aO (pv 0) rfl) rfl) pM (gr (pv 2))) aG))) rfl)) ?_;walk_at "rd";refine ⟨_,_,_,hd,T.mH,T.cV,_,rfl,_,rfl,_,_,_,hj,T.bR,T.eN,_,rfl,_,rfl,_,cY.of hJ.ha,λp hp=>?_⟩;have ec:ym (bV st.journal) none (some x)=bV (st.journal.take x.toNat):=by
      conv=>lhs;rw [show x=((x.toNat:Nat):Int) by omega]
      rw [agO];exact uA.symm
     rw [ec];have s1:bh H (upd H p (.lst (bV (st.journal.take x.toNat)))):=bh.new hp;have hp1:(upd H p (.lst (bV (st.journal.take x.toNat)))) p=some (.lst (bV (st.journal.take x.toNat))):=aD;revert s1 hp1;generalize (upd H p (.lst (bV (st.journal.take x.toNat))))=H1;intro s1 hp1;have hjl:=Xk (st.journal.take x.toNat);have hre:cU (cU (st.journal.take x.toNat)).journal=cU (st.journal.take x.toNat):=by rw [hjl]
     have hle:(cU (st.journal.take x.toNat)).journal.length<=6000:=by
      rw [hjl,bO];have:=hD.len;omega
     refine ⟨p,_,rfl,hp1,by rw [<-hjl];exact hle,λj' ta' b' N' L' S' H2 Yx hN2 hS2 hj2 ht2 s2=>?_⟩;have n2:¬S' d:=λz=>by
      have:=hS2 d z;rw [s1 _ _ hd] at this;cases this
     have hown:∀y,S' y\/y=j'\/y=ta'->H1 y=none:=λy hy=>by
      rcases hy with hy | rfl | rfl
      ·exact hS2 y hy
      ·exact hj2
      ·exact ht2
     walk_at "rd";refine ⟨_,_,_,s2 _ _ (s1 _ _ hd),T.mH,T.cV,of_decide_eq_true rfl,?_⟩;have ep:dU (bA "journal") (V.ref j') (JD j)=JD j':=rfl;rw [ep];have hd3:(upd H2 d (.ins A.mJ dx (JD j'))) d=some (.ins A.mJ dx (JD j')):=aD;have k3:∀y o,y≠d->H2 y=some o->(upd H2 d (.ins A.mJ dx (JD j'))) y=some o:=λy o n h=>by rw [aF n];exact h
     revert hd3 k3;generalize (upd H2 d (.ins A.mJ dx (JD j')))=H3;intro hd3 k3;have hJ3:=Yx.keep (H':=H3) λy o hy h=>k3 y o (λz=>by
      have:=hown y hy;rw [z,s1 _ _ hd] at this;cases this) h
     obtain ⟨axs,hj3⟩:=hJ3.ob;obtain ⟨axu,hb3⟩:=hJ3.bk.bk;refine cz (aK (bB (cZ (aq bG (aq (cH cW rfl T.jG bI (aq (aO (aO (aO (pv 0) rfl) rfl) rfl) aG)) (aq (cJ vV (hr.mono (by decide)) rfl T.Nm T.zf.kp T.Dj .nil dz (aq (aO (aO (pv 0) rfl) rfl) aG)) aG)))))) ?_;walk_at "rd";refine ⟨_,_,_,hd3,T.mH,T.cV,_,rfl,_,rfl,_,_,_,hj3,T.bR,T.cI,_,rfl,_,rfl,_,_,_,hb3,T.cN,T.fD,_,rfl,_,rfl,_,.inl (cY.of hJ3.bk.re),
      _,_,_,hd3,T.mH,T.cV,_,rfl,_,rfl,_,_,_,hj3,T.bR,T.jo,_,rfl,_,rfl,by rw [sizeLine_eq];decide,λp4 hp4=>?_⟩
     have el:[V.int 0,V.int ((L'.rs.map V.ref).length:Int),V.int ((if (cU (st.journal.take x.toNat)).broken=true then 1 else 0:Nat):Int)]=
       iV (qJ [(cU (st.journal.take x.toNat)).books.records.length,if (cU (st.journal.take x.toNat)).broken=true then 1 else 0]):=by
      rw [RD,ao,hJ3.bk.Cr];rfl
     rw [el];refine aj1 hst q hd3 hJ3 hN2 n2 hle hre hp4 (λy hy=>?_) λy o h hy=>k3 y o (λz=>hy (z▸sd)) (s2 _ _ (s1 _ _ h));rcases hy with hy | hy | hy | hy
     ·exact .inr (same_none s1 (hown y (.inl hy)))
     ·exact .inr (same_none s1 (hown y (.inr (.inl hy))))
     ·exact .inr (same_none s1 (hown y (.inr (.inr hy))))
     ·exact .inl (hy▸sd)
   ·rw [if_pos (by simpa using x1)];exact jh (out (by omega)) (bh.refl H)
  ·rw [if_neg x0];exact jh (out (by omega)) (bh.refl H)))
theorem aeo(T:Txt P w K mg A):fU P w K mg base mU 2 A.pC A.nM tE (pH A (λl=>.record (l.getD 0 0)) λl=>l.length=1):=(by apply aj:aa (by
 have vV:=Ft (base:=base) T;refine T.sW.ok m8 (λvs H Q E h=>?_) (λcdv A' outer s H vs Q E hr h=>?_)
 ·obtain ⟨d,a,st,S,args,rfl,_⟩:=h;rfl
 ·obtain ⟨d,a,st,S,args,rfl,hD,na,ha,hl,pre,q⟩:=h;refine ⟨_,(aL (lL 2 m8.nd (iG fP (pv 1) bG (λ_ _=>rfl)))
   (bw (lL 3 m8.nd (aO (aO (aO (pv 0) rfl) rfl) rfl)))),?_⟩
  obtain ⟨dx,j,ta,b,N,L,S0,hd,hJ,hN,hS0,sj,sta,sd,nd⟩:=hD.ex;obtain ⟨Oi,hj⟩:=hJ.ob;obtain ⟨x,rfl⟩:∃x,args=[x]:=by
   match args,pre with
   |[x],_=>exact ⟨x,rfl⟩
  have q:∀(D:Addr) (H':Hp) (S':Addr->Prop),km A H' d (bC st (.record x)).1 S'->(∀x,S' x->S x\/H x=none)->(H D=none\/S D)->H' D=some (.lst (iV (bC st (.record x)).2))->¬S' D->
   (∀x o,H x=some o->¬S x->H' x=some o)->Q (.ref D) H':=q
  have out:¬(1<=x/\x<=1000)->∀(D:Addr) (H':Hp),bh H H'->H D=none->H' D=some (.lst (iV [-1]))->Q (.ref D) H':=λhh=>by
   refine eQ hD (oK ?_) q;unfold gk iu;simp only [jP,decide_eq_false_iff_not];omega
  obtain ⟨BV,hb⟩:=hJ.bk.bk;have l1:((L.rs.map V.ref).length:Int)=(st.books.records.length:Int):=by rw [ao,hJ.bk.Cr]
  walk_at "rd";refine ⟨_,cY.of ha,V.int x,fH (j:=0) rfl,_,_,_,hd,T.mH,T.cV,_,rfl,_,rfl,_,_,_,hj,T.bR,T.cI,_,rfl,_,rfl,_,_,_,hb,T.cN,T.fD,_,rfl,?_⟩;refine cz (bw (dW (kO (qd ni ni bG (pv 2) (bH T.K5))) (aK (bB (cZ (aq (bH T.iI) aG)))) b7)) ?_;walk_at "rd";by_cases x0:1<=x
  ·rw [if_pos x0];by_cases x1:x<=1000
   ·rw [if_neg (by simpa using x1)];refine cz (bw (dW (bZ Kv (cH cW rfl T.jG bI (aq (pv 3) aG)) (pv 2) (cP _)) (aK (bB (cZ (aq (bH T.FP) aG)))) b7)) ?_;walk_at "rd";refine ⟨_,.inl (cY.of hJ.bk.re),?_⟩;rw [l1];have hra:¬(gk (.record x)=false):=by
     unfold gk iu;simp [x0,x1]
    by_cases hlen:(st.books.records.length:Int)<x
    ·rw [if_pos hlen];have hst:bC st (.record x)=(st,[-5]):=by
      unfold bC;rw [if_neg hra];have:st.books.records[x.toNat - 1]? =none:=gY (by omega)
      try dsimp only
      rw [this]
     exact jh (eQ hD hst q) (bh.refl H)
    ·rw [if_neg hlen];obtain ⟨r,hr0⟩:∃r,st.books.records[x.toNat - 1]? =some r:=⟨_,ak (by omega)⟩;obtain ⟨ra,RK⟩:∃ra,L.rs[x.toNat - 1]? =some ra:=⟨_,ak (by rw [hJ.bk.Cr];omega)⟩;obtain ⟨e0,he0⟩:∃e0,st.ends[x.toNat - 1]? =some e0:=⟨_,ak (by rw [hJ.bk.esl];omega)⟩;obtain ⟨dxr,u,v,h1,h2,h3⟩:=hJ.bk.rat _ r ra e0 hr0 RK he0;have hat:atI (L.rs.map V.ref) (x - 1)=some (.ref ra):=at_of (j:=x.toNat - 1) (by omega) (by rw [aW,RK];rfl);have hst:bC st (.record x)=(st,qJ ([r.code,r.month,if r.back=true then 1 else 0,e0]++(match r.move with | none=>[] | some m=>[m.from_+1,m.to_+1,m.kg]++m.metals))):=by
      unfold bC;rw [if_neg hra]
      try dsimp only
      rw [hr0]
      try dsimp only
      rw [cC,he0];rfl
     have k:=eQ hD hst q;refine cz (bw (lL 4 m8.nd (iG fP (pv 3) (fC DY (pv 2) bG) (λ_ _=>rfl)))) ?_;walk_at "rd";refine ⟨_,cY.of hJ.bk.re,_,hat,?_⟩;refine cz (bw (lL 5 m8.nd (cZ (aq bG (aq (aO (pv 4) rfl) (aq (aO (pv 4) rfl) (aq (cJ vV (hr.mono (by decide)) rfl T.Nm T.zf.kp T.Dj .nil dz (aq (aO (pv 4) rfl) aG)) (aq (aO (pv 4) rfl) aG)))))))) ?_;walk_at "rd";refine ⟨_,_,_,h1,T.dg,T.lr,_,rfl,_,_,_,h1,T.dg,T.tG,_,rfl,_,_,_,h1,T.dg,T.jf,_,rfl,_,rfl,
      _,_,_,h1,T.dg,T.xG,_,rfl,by rw [sizeLine_eq];decide,λp hp=>?_⟩
     have s1:bh H (upd H p (.lst [V.int 0,V.int (r.code:Int),V.int (r.month:Int),V.int ((if r.back=true then 1 else 0:Nat):Int),V.int (e0:Int)])):=bh.new hp;have hp1:(upd H p (.lst [V.int 0,V.int (r.code:Int),V.int (r.month:Int),V.int ((if r.back=true then 1 else 0:Nat):Int),V.int (e0:Int)])) p=some (.lst (V.int 0::bV [r.code,r.month,if r.back=true then 1 else 0,e0])):=aD;revert s1 hp1;generalize (upd H p (.lst [V.int 0,V.int (r.code:Int),V.int (r.month:Int),V.int ((if r.back=true then 1 else 0:Nat):Int),V.int (e0:Int)]))=H1;intro s1 hp1;have h1':=s1 _ _ h1;refine cz (bw (dW (bZ yG (aO (pv 4) rfl) nY (cP _)) (aK (bB (pv 5))) b7)) ?_;walk_at "rd";refine ⟨_,_,_,h1',T.dg,T.d9,_,rfl,?_⟩;cases hm:r.move with
     |none=>
      rw [hm] at h2 k;have h2:v= .non:=h2;rw [if_pos h2];exact k p H1 s1 hp (by rw [hp1,RD];simp)
     |some m=>
      rw [hm] at h2 k;obtain ⟨ma,la,hv,hM,_,_⟩:=h2;rw [if_neg (by rw [hv];simp)];obtain ⟨dxm,sa,tg,hM1,hM2,hM3⟩:=hM.ob;obtain ⟨g1,g2,g3,g4,g5,g6⟩:=hJ.bk.ok.mv r (aM hr0) m hm;obtain ⟨⟨pa,pla⟩,hps⟩:∃y,L.ps[m.from_]? =some y:=⟨_,ak (by rw [hJ.bk.yE];exact g1)⟩;obtain ⟨⟨pb,plb⟩,hpt⟩:∃y,L.ps[m.to_]? =some y:=⟨_,ak (by rw [hJ.bk.yE];exact g2)⟩;rw [hps] at hM2;rw [hpt] at hM3;obtain rfl:pa=sa:=aB hM2;obtain rfl:pb=tg:=aB hM3;obtain ⟨dx1,hP1⟩:=(hJ.bk.pat m.from_ _ pa pla (ak g1) hps).ob;obtain ⟨dx2,hP2⟩:=(hJ.bk.pat m.to_ _ pb plb (ak g2) hpt).ob;have arv:=s1 _ _ hM1;refine cz (aK (bB (fC qg (fC qg (pv 5) (cZ (aq (aO (aO (aO (pv 4) rfl) rfl) rfl) (aq (aO (aO (aO (pv 4) rfl) rfl) rfl) aG)))) (aO (aO (pv 4) rfl) rfl)))) ?_;walk_at "rd";refine ⟨_,_,_,h1',T.dg,T.d9,_,rfl,ma,hv,_,_,_,arv,T.mG,T.lA,_,rfl,pa,rfl,_,_,_,s1 _ _ hP1,T.d7,T.fO,_,rfl,
       _,_,_,h1',T.dg,T.d9,_,rfl,ma,hv,_,_,_,arv,T.mG,T.lu,_,rfl,pb,rfl,_,_,_,s1 _ _ hP2,T.d7,T.fO,_,rfl,by rw [sizeLine_eq];decide,λp2 hp2=>?_⟩
      have n12:p≠p2:=λz=>by rw [<-z,hp1] at hp2;cases hp2
      have s2:=bh.new hp2 (o:=.lst [V.int ((m.from_+1:Nat):Int),V.int ((m.to_+1:Nat):Int)]);have hp2':(upd H1 p2 (.lst [V.int ((m.from_+1:Nat):Int),V.int ((m.to_+1:Nat):Int)])) p2=some (.lst (bV [m.from_+1,m.to_+1])):=aD;revert s2 hp2';generalize (upd H1 p2 (.lst [V.int ((m.from_+1:Nat):Int),V.int ((m.to_+1:Nat):Int)]))=H2;intro s2 hp2';refine ⟨_,s2 _ _ hp1,_,hp2',by rw [sizeLine_eq];simp,λp3 hp3=>?_⟩;have s3:=bh.new hp3 (o:=.lst (V.int 0::bV [r.code,r.month,if r.back=true then 1 else 0,e0]++bV [m.from_+1,m.to_+1]));have VR:(upd H2 p3 (.lst (V.int 0::bV [r.code,r.month,if r.back=true then 1 else 0,e0]++bV [m.from_+1,m.to_+1]))) p3=some (.lst (V.int 0::bV [r.code,r.month,if r.back=true then 1 else 0,e0]++bV [m.from_+1,m.to_+1])):=aD;revert s3 VR;generalize (upd H2 p3 (.lst (V.int 0::bV [r.code,r.month,if r.back=true then 1 else 0,e0]++bV [m.from_+1,m.to_+1])))=H3;intro s3 VR;have s03:=(s1.trans s2).trans s3;refine ⟨_,_,_,s03 _ _ h1,T.dg,T.d9,_,rfl,ma,hv,_,_,_,s03 _ _ hM1,T.mG,T.lQ,_,rfl,la,rfl,?_⟩;refine N6 k s03 VR (s03 _ _ hM.am) ?_ ?_
      ·rw [sizeLine_eq];have:=hJ.bk.ok.me;simp only [ao,aH,bF,aJ];omega
      ·rw [RD];simp
   ·rw [if_pos (by simpa using x1)];exact jh (out (by omega)) (bh.refl H)
  ·rw [if_neg x0];exact jh (out (by omega)) (bh.refl H)))
theorem ad0{N:Nat}{B:aC}(ok:BOk N B):(B.places.flatMap v9).length<=48:=(by apply aj:aa (by
 have key:∀l:List dw,(∀x∈l,x.metals.length<=2)->(l.flatMap v9).length<=l.length*4:=λl=>by
  induction l with
  |nil=>simp
  |cons x l ih=>
   intro hh;have i1:=ih λy hy=>hh y (aV _ hy);have i2:=hh x bz;rw [gw,aJ];have:(v9 x).length=x.metals.length+2:=by unfold v9;simp
   simp only [aH];omega
 have:=key B.places λx hx=>by rw [ok.pm x hx];exact ok.me
 have:=ok.ps;omega))
theorem ai8(T:Txt P w K mg A):fU P w K mg base mU 9 A.sO A.qt xu (pH A (λl=>.asof (l.getD 0 0)) λl=>l.length=1):=(by apply aj:aa (by
 have qX:=Ea (base:=base) T (xF T (De T));have oE:=O3 (base:=base) T;refine T.wY.ok m9 (λvs H Q E h=>?_) (λcdv A' outer s H vs Q E hr h=>?_)
 ·obtain ⟨d,a,st,S,args,rfl,_⟩:=h;rfl
 ·obtain ⟨d,a,st,S,args,rfl,hD,na,ha,hl,pre,q⟩:=h;refine ⟨_,(aL (lL 2 m9.nd (iG fP (pv 1) bG (λ_ _=>rfl)))
   (bw (lL 3 m9.nd (aO (pv 0) rfl)))),?_⟩
  obtain ⟨dx,j,ta,b,N,L,S0,hd,hJ,hN,hS0,sj,sta,sd,nd⟩:=hD.ex;obtain ⟨Oi,hj⟩:=hJ.ob;obtain ⟨x,rfl⟩:∃x,args=[x]:=by
   match args,pre with
   |[x],_=>exact ⟨x,rfl⟩
  have q:∀(D:Addr) (H':Hp) (S':Addr->Prop),km A H' d (bC st (.asof x)).1 S'->(∀x,S' x->S x\/H x=none)->(H D=none\/S D)->H' D=some (.lst (iV (bC st (.asof x)).2))->¬S' D->
   (∀x o,H x=some o->¬S x->H' x=some o)->Q (.ref D) H':=q
  have out:¬(0<=x/\x<=1000)->∀(D:Addr) (H':Hp),bh H H'->H D=none->H' D=some (.lst (iV [-1]))->Q (.ref D) H':=λhh=>by
   refine eQ hD (oK ?_) q;unfold gk iu;simp only [jP,decide_eq_false_iff_not];omega
  obtain ⟨BV,hb⟩:=hJ.bk.bk;have l1:((L.rs.map V.ref).length:Int)=(st.books.records.length:Int):=by rw [ao,hJ.bk.Cr]
  walk_at "rd";have avk:=hD.len;refine ⟨_,cY.of ha,V.int x,fH (j:=0) rfl,_,_,_,hd,T.mH,T.cV,_,rfl,?_⟩;refine cz (bw (dW (kO (qd ni ni bG (pv 2) (bH T.K5))) (aK (bB (cZ (aq (bH T.iI) aG)))) b7)) ?_;walk_at "rd";by_cases x0:0<=x
  ·rw [if_pos x0];by_cases x1:x<=1000
   ·rw [if_neg (by simpa using x1)];refine cz (bw (dW (bZ Kv (cH cW rfl T.jG bI (aq (aO (aO (pv 3) rfl) rfl) aG)) (pv 2) (cP _)) (aK (bB (cZ (aq (bH T.FP) aG)))) b7)) ?_;walk_at "rd";refine ⟨_,_,_,hj,T.bR,T.cI,_,rfl,_,rfl,_,_,_,hb,T.cN,T.fD,_,rfl,_,rfl,_,.inl (cY.of hJ.bk.re),?_⟩;rw [l1];have hra:¬(gk (.asof x)=false):=by
     unfold gk iu;simp [x0,x1]
    have hst:bC st (.asof x)=if st.books.records.length<x.toNat then (st,[-5]) else
      (st,0::((Je st x.toNat).month:Int)::((Je st x.toNat).places.length:Int)::(Je st x.toNat).places.flatMap pU):=by
     unfold bC;rw [if_neg hra]
    by_cases hlen:st.books.records.length<x.toNat
    ·rw [if_pos (by omega)];rw [if_pos hlen] at hst;exact jh (eQ hD hst q) (bh.refl H)
    ·rw [if_neg (by omega)];rw [if_neg hlen] at hst;refine cz (bw (lL 4 m9.nd (xX (bZ oN (pv 2) bG (cP _)) bG (aO (iG fP (aO (aO (pv 3) rfl) rfl) (fC DY (pv 2) bG) (λ_ _=>rfl)) rfl)))) ?_;walk_at "rd";refine ⟨rfl,?_⟩;by_cases xz:x=0
     ·rw [if_pos (by rw [xz])];have hb0:Je st x.toNat=(cU (st.journal.take 0)).books:=by
       rw [xz];rfl
      rw [hb0] at hst;have k:=eQ hD hst q;have ec:ym (bV st.journal) none (some 0)=bV (st.journal.take 0):=(agO (bV st.journal) 0).trans uA.symm;refine cz (bw (lL 5 m9.nd (aO (hld (cJ qX (hr.mono (by decide)) rfl T.zW T.nR.kp T.qW .nil dz (aq (jF lF (aO (pv 3) rfl) pM (gr (pv 4))) aG))) rfl))) ?_;walk_at "rd";refine ⟨_,_,_,hj,T.bR,T.eN,_,rfl,_,rfl,_,cY.of hJ.ha,λp hp=>?_⟩;rw [ec];have s1:bh H (upd H p (.lst (bV (st.journal.take 0)))):=bh.new hp;have hp1:(upd H p (.lst (bV (st.journal.take 0)))) p=some (.lst (bV (st.journal.take 0))):=aD;revert s1 hp1;generalize (upd H p (.lst (bV (st.journal.take 0))))=H1;intro s1 hp1;refine ⟨p,_,rfl,hp1,by rw [bO];omega,λj' ta' b' N' L' S' H2 Yx hN2 hS2 hj2 ht2 s2=>?_⟩;obtain ⟨arI,hj2'⟩:=Yx.ob;obtain ⟨auD,hb2⟩:=Yx.bk.bk;walk_at "rd";refine ⟨_,_,_,hj2',T.bR,T.cI,_,rfl,?_⟩;refine cz (aK (bB (fC qg (cZ (aq bG (aq (aO (pv 5) rfl) aG))) (Fo (pv 5) T.cN T.rC oE (hr.mono (by decide)) T.lD .nil dz)))) ?_;walk_at "rd";refine ⟨_,_,_,hb2,T.cN,T.jR,_,rfl,by rw [sizeLine_eq];decide,λp3 hp3=>?_⟩;have s3:=bh.new hp3 (o:=.lst [V.int 0,V.int ((cU (st.journal.take 0)).books.month:Int)]);have VR:(upd H2 p3 (.lst [V.int 0,V.int ((cU (st.journal.take 0)).books.month:Int)])) p3=some (.lst [V.int 0,V.int ((cU (st.journal.take 0)).books.month:Int)]):=aD;revert s3 VR;generalize (upd H2 p3 (.lst [V.int 0,V.int ((cU (st.journal.take 0)).books.month:Int)]))=H3;intro s3 VR;refine ⟨_,_,s3 _ _ hb2,rfl,b',N',_,_,L',S',rfl,Yx.bk.same s3,λD H4 Zz s4 h4=>⟨D,rfl,?_⟩⟩;refine N6 k (((s1.trans s2).trans s3).trans s4) (s4 _ _ VR) h4 (by rw [sizeLine_eq];have:=ad0 Yx.bk.ok;simp only [ao,aH,bF];omega) ?_;rw [ab3];rfl
     ·rw [if_neg (by simpa using xz)];obtain ⟨r,hr0⟩:∃r,st.books.records[x.toNat - 1]? =some r:=⟨_,ak (by omega)⟩;obtain ⟨ra,RK⟩:∃ra,L.rs[x.toNat - 1]? =some ra:=⟨_,ak (by rw [hJ.bk.Cr];omega)⟩;obtain ⟨e0,he0⟩:∃e0,st.ends[x.toNat - 1]? =some e0:=⟨_,ak (by rw [hJ.bk.esl];omega)⟩;obtain ⟨dxr,u,v,h1,h2,h3⟩:=hJ.bk.rat _ r ra e0 hr0 RK he0;have hat:atI (L.rs.map V.ref) (x - 1)=some (.ref ra):=at_of (j:=x.toNat - 1) (by omega) (by rw [aW,RK];rfl);have hb0:Je st x.toNat=(cU (st.journal.take e0)).books:=by
       unfold Je;rw [if_neg (by omega),cC,he0];rfl
      rw [hb0] at hst;have k:=eQ hD hst q;have ec:ym (bV st.journal) none (some ((e0:Nat):Int))=bV (st.journal.take e0):=(agO (bV st.journal) e0).trans uA.symm;refine ⟨_,_,_,hj,T.bR,T.cI,_,rfl,_,rfl,_,_,_,hb,T.cN,T.fD,_,rfl,_,rfl,_,cY.of hJ.bk.re,_,hat,ra,rfl,_,_,_,h1,T.dg,T.xG,_,rfl,?_⟩;refine cz (bw (lL 5 m9.nd (aO (hld (cJ qX (hr.mono (by decide)) rfl T.zW T.nR.kp T.qW .nil dz (aq (jF lF (aO (pv 3) rfl) pM (gr (pv 4))) aG))) rfl))) ?_;walk_at "rd";refine ⟨_,_,_,hj,T.bR,T.eN,_,rfl,_,rfl,_,cY.of hJ.ha,λp hp=>?_⟩;rw [ec];have s1:bh H (upd H p (.lst (bV (st.journal.take e0)))):=bh.new hp;have hp1:(upd H p (.lst (bV (st.journal.take e0)))) p=some (.lst (bV (st.journal.take e0))):=aD;revert s1 hp1;generalize (upd H p (.lst (bV (st.journal.take e0))))=H1;intro s1 hp1;refine ⟨p,_,rfl,hp1,by rw [bO];omega,λj' ta' b' N' L' S' H2 Yx hN2 hS2 hj2 ht2 s2=>?_⟩;obtain ⟨arI,hj2'⟩:=Yx.ob;obtain ⟨auD,hb2⟩:=Yx.bk.bk;walk_at "rd";refine ⟨_,_,_,hj2',T.bR,T.cI,_,rfl,?_⟩;refine cz (aK (bB (fC qg (cZ (aq bG (aq (aO (pv 5) rfl) aG))) (Fo (pv 5) T.cN T.rC oE (hr.mono (by decide)) T.lD .nil dz)))) ?_;walk_at "rd";refine ⟨_,_,_,hb2,T.cN,T.jR,_,rfl,by rw [sizeLine_eq];decide,λp3 hp3=>?_⟩;have s3:=bh.new hp3 (o:=.lst [V.int 0,V.int ((cU (st.journal.take e0)).books.month:Int)]);have VR:(upd H2 p3 (.lst [V.int 0,V.int ((cU (st.journal.take e0)).books.month:Int)])) p3=some (.lst [V.int 0,V.int ((cU (st.journal.take e0)).books.month:Int)]):=aD;revert s3 VR;generalize (upd H2 p3 (.lst [V.int 0,V.int ((cU (st.journal.take e0)).books.month:Int)]))=H3;intro s3 VR;refine ⟨_,_,s3 _ _ hb2,rfl,b',N',_,_,L',S',rfl,Yx.bk.same s3,λD H4 Zz s4 h4=>⟨D,rfl,?_⟩⟩;refine N6 k (((s1.trans s2).trans s3).trans s4) (s4 _ _ VR) h4 (by rw [sizeLine_eq];have:=ad0 Yx.bk.ok;simp only [ao,aH,bF];omega) ?_;rw [ab3];rfl
   ·rw [if_pos (by simpa using x1)];exact jh (out (by omega)) (bh.refl H)
  ·rw [if_neg x0];exact jh (out (by omega)) (bh.refl H)))
inductive W8(K:az)(A:uw)(vs:List V)(H:Hp)(Q:VK)(E:XK):Prop
 |mk (d a dx j ta b:Addr) (N:Nat) (br:Bool) (st:cB) (L:Lay) (S0:Addr->Prop) (l:List Nat) (_:vs=[.ref d,.ref a]) (_:H d=some (.ins A.mJ dx (JD j))) (_:gf A N H br j ta b st L S0) (_:cY K H a (bV l)) (_:l.length<=3000) (_:∀H',bh H H'->Q ((m7 (eE st.books.places L.ps) (bW (tx (l.map sg)))).getD .non) H')
theorem Kw(T:Txt P w K mg A):fU P w K mg base mU 2 A.Ed A.ql xn (W8 K A):=(by apply aj:aa (by
 have Uz:=XQ (base:=base) T;refine T.rH.ok Xf (λvs H Q E h=>?_) (λcdv A' outer s H vs Q E hr h=>?_)
 ·obtain ⟨d,a,dx,j,ta,b,N,br,st,L,S0,l,rfl,_⟩:=h;rfl
 ·obtain ⟨d,a,dx,j,ta,b,N,br,st,L,S0,l,rfl,hd,hJ,ha,hl,q⟩:=h;refine ⟨_,(aK (bB (Fp (hu1 hr) (aO (aO (aO (pv 0) rfl) rfl) rfl) (cJ Uz (hr.mono (by decide)) rfl T.aba T.Fg.kp T.N5 .nil dz (aq (pv 1) aG)) ⟨rfl,rfl,rfl,rfl⟩))),?_⟩;obtain ⟨Oi,hj⟩:=hJ.ob;obtain ⟨BV,hb⟩:=hJ.bk.bk;walk_at "rd";exact ⟨_,_,_,hd,T.mH,T.cV,_,rfl,_,rfl,_,_,_,hj,T.bR,T.cI,_,rfl,_,rfl,_,_,_,hb,T.cN,T.fG,_,rfl,_,rfl,.inl ⟨_,.inl hJ.bk.pl⟩,a,l,rfl,ha,by omega,
   λH1 s1=>⟨_,Et.k (k:=bW (tx (l.map sg))) (s1 _ _ hJ.bk.pl),q H1 s1⟩⟩))
theorem agg(T:Txt P w K mg A):fU P w K mg base mU 3 A.qz A.oX vf (pH A (λl=>.place l) λl=>l.length<=3000):=(by apply aj:aa (by
 have gP:=Fx (base:=base) T;have Es:=Kw (base:=base) T;have Mq:=Rq (base:=base) T;refine T.uK.ok Jq (λvs H Q E h=>?_) (λcdv A' outer s H vs Q E hr h=>?_)
 ·obtain ⟨d,a,st,S,args,rfl,_⟩:=h;rfl
 ·obtain ⟨d,a,st,S,args,rfl,hD,na,ha,hl,pre,q⟩:=h;refine ⟨_,(aL (dW (kO (lN (cJ gP (hr.mono (by decide)) rfl T.mj T.iB.kp T.jr .nil dz (aq (pv 1) aG)))) (aK (bB (cZ (aq (bH T.iI) aG)))) b7)
   (aL (lL 2 Jq.nd (cJ Es (hr.mono (by decide)) rfl T.Pa T.rH.kp T.xH .nil dz (aq (pv 0) (aq (pv 1) aG))))
   (aL (dW (bZ yG (pv 2) nY (cP _)) (aK (bB (cZ (aq (bH T.yI) aG)))) b7)
   (aK (bB (fC qg (cZ (aq bG (aq (aO (pv 2) rfl) aG))) (Fo (pv 2) T.d7 T.Rt Mq (hr.mono (by decide)) T.Dn .nil dz))))))),?_⟩
  obtain ⟨dx,j,ta,b,N,L,S0,hd,hJ,hN,hS0,sj,sta,sd,nd⟩:=hD.ex;obtain ⟨Oi,hj⟩:=hJ.ob;obtain ⟨BV,hb⟩:=hJ.bk.bk;walk_at "rd";refine ⟨a,args,rfl,cY.of ha,by rw [sizeLine_eq];omega,λH1 s1=>⟨_,rfl,?_⟩⟩;cases hby:gK args with
  |false=>
   rw [if_pos rfl];exact jh (eQ hD (oK (c:=.place args) hby) q) s1
  |true=>
   rw [if_neg (by simp)];obtain ⟨e1,e2⟩:=K6 hby;have hst:bC st (.place args)=match dM st.books (dI args) with | none=>(st,[-6]) | some i=>(st,0::((i+1:Nat):Int)::pU (jV st.books i)):=by
    unfold bC;rw [if_neg (by show ¬gK args=false;rw [hby];simp)]
    try dsimp only
    cases dM st.books (dI args)<;>rfl
   refine ⟨d,a,dx,j,ta,b,N,_,st,L,S0,dI args,rfl,s1 _ _ hd,hJ.same s1,cY.of (by rw [<-e1];exact s1 _ _ ha),by rw [e2];exact pre,λH2 s2=>?_⟩;have s02:=s1.trans s2;rcases hJ.bk.ajB (dI args) with ⟨g1,g2⟩ | ⟨i,p,pa,la,g1,g2,g3,g4,g5⟩
   ·rw [g2]
    try dsimp only
    rw [if_pos rfl];rw [g1] at hst;exact jh (eQ hD hst q) s02
   ·rw [g5]
    try dsimp only
    rw [if_neg (by simp)];rw [g1] at hst;have k:=eQ hD hst q;have hP:=hJ.bk.pat i p pa la g2 g4;obtain ⟨dxp,hp0⟩:=hP.ob;refine ⟨pa,rfl,_,_,_,s02 _ _ hp0,T.d7,T.fO,_,rfl,by rw [sizeLine_eq];decide,λp1 hp1=>?_⟩;have s3:=bh.new hp1 (o:=.lst [V.int 0,V.int ((i+1:Nat):Int)]);have Hy:(upd H2 p1 (.lst [V.int 0,V.int ((i+1:Nat):Int)])) p1=some (.lst [V.int 0,V.int ((i+1:Nat):Int)]):=aD;revert s3 Hy;generalize (upd H2 p1 (.lst [V.int 0,V.int ((i+1:Nat):Int)]))=H3;intro s3 Hy;have s03:=s02.trans s3;refine ⟨pa,rfl,_,_,s03 _ _ hp0,rfl,pa,dxp,i+1,p.kind,p.opened,la,p.kg::p.metals,rfl,s03 _ _ hp0,s03 _ _ hP.am,by have:=hJ.bk.ok.pm p (aM g2);have:=hJ.bk.ok.me;simp only [aH];omega,λD H4 Zz s4 h4=>⟨D,rfl,?_⟩⟩;refine N6 k (s03.trans s4) (s4 _ _ Hy) h4 ?_ ?_
    ·have m1:=hJ.bk.ok.pm p (aM g2);have m2:=hJ.bk.ok.me;rw [sizeLine_eq];simp only [ao,aH,bF];omega
    ·unfold pU;rw [g3];show V.int 0::V.int ((i+1:Nat):Int)::V.int (qY p.kind:Int)::V.int (p.kg:Int)::bV p.metals=V.int 0::V.int ((i+1:Nat):Int)::V.int (qY p.kind:Int)::V.int (p.kg:Int)::iV (Vbmiam.ints p.metals);rw [RG]))
noncomputable def arB:V->V
 |.str z=>.int ((z.cps.getD 0 0:Nat):Int)
 |v=>v
inductive abQ(vs:List V)(H:Hp)(Q:VK)(E:XK):Prop
 |mk (n k:Nat) (_:vs=[.int (n:Int),.int (k:Int)]) (_:1<=k) (_:k<=6) (_:n<10^k) (_:∀D H',H D=none->bh H H'->H' D=some (.lst (bV (jZ k n)))->Q (.ref D) H')
theorem qe:∀k n:Nat,(jZ k n).length=k
 |0,n=>rfl
 |k+1,n=>by
  unfold jZ;rw [aJ,qe k];rfl
theorem acs(T:Txt P w K mg A):fU P w K mg base mU 1 A.Lf A.vH CW abQ:=(by apply aj:aa (by
 refine T.xW.ok GX (λvs H Q E h=>?_) (λcdv A' outer s H vs Q E hr h=>?_)
 ·obtain ⟨n,k,rfl,_⟩:=h;rfl
 ·obtain ⟨n,k,rfl,h1,h2,h3,q⟩:=h;refine ⟨_,(aK (bB (yU rfl GX.nd (XC (rM PySem.F.plainAttrs_str PySem.F.slot_str_zfill PySem.F.type_str_zfill alu (TX acW rfl T.aqY boot_str (aq (pv 0) aG)) (aq (pv 1) aG))) (iJ (N:=Vo) (sc:=aX CN) (own:=[("digit",2)]) (by decide+kernel)) (λ_ _ _ _ _=>(eZ (i:=2) GX.nd rfl (dZ rfl) (hf:=gF rfl))) (λ_ _ _ _ _=>kJ) (λ_ _ _ _ _=>(cH Y6 rfl T.alr boot_ord (aq (pv 2) aG)))))),?_⟩;walk_at "rd";have aua:((n:Nat):Int).natAbs.log2<1920:=by
   rw [Int.natAbs_natCast];rcases Vt n with z | z
   ·rw [z];decide
   ·refine (Nat.log2_lt (by omega)).mpr (cM h3 ?_);exact aY (Aj (by decide) h2) (aY (by decide:10^6<=2^20) (Aj (by decide) (by decide)))
  have at6:PadOk ((k:Nat):Int)=true:=by
   have:k=1\/k=2\/k=3\/k=4\/k=5\/k=6:=by omega
   rcases this with z | z | z | z | z | z<;>subst z<;>decide
  have hpl:=qe k n;refine ⟨(n:Int),rfl,aua,rfl,_,rfl,_,rfl,at6,_,rfl,?_⟩;rw [akL h1 h3];refine Wf arB (by show (jZ k n).toArray.size<=_;rw [bN,hpl,sizeLine_eq];omega) ?_ ?_
  ·intro i c H1 R hc s1 h;walk_at "rd";exact ⟨rfl,h H1 (bh.refl H1)⟩
  ·intro D H1 hD s1 h;exact q D H1 hD s1 h))
inductive afP(K:az)(vs:List V)(H:Hp)(Q:VK)(E:XK):Prop
 |mk (a:Addr) (l:List Nat) (_:vs=[.ref a]) (_:H a=some (.lst (bV l))) (_:l.length<=200) (_:∀D H',H D=none->bh H H'->H' D=some (.lst (bV (Eu l)))->Q (.ref D) H')
theorem iz{H H2 H3:Hp}{o:HO}{p:Addr}(s:bh H H2)(hp:H2 p=none)(e:upd H2 p o=H3):bh H H3/\bh H2 H3/\H p=none/\H3 p=some o:=by
 subst e;exact ⟨s.X5 hp,bh.new hp,same_none s hp,aD⟩
theorem af5(T:Txt P w K mg A):fU P w K mg base mU 2 A.Ue A.Bp M6 (afP K):=(by apply aj:aa (by
 have Vp:=acs (base:=base) T;have Mm:=TY (base:=base) T;refine T.Mu.ok PK (λvs H Q E h=>?_) (λcdv A' outer s H vs Q E hr h=>?_)
 ·obtain ⟨a,l,rfl,_⟩:=h;rfl
 ·obtain ⟨a,l,rfl,ha,hl,q⟩:=h;refine ⟨_,(aL (lL 1 PK.nd (fC qg (cJ Vp (hr.mono (by decide)) rfl T.Vk T.xW.kp T.Dl .nil dz (aq (cH cW rfl T.jG bI (aq (pv 0) aG)) (aq (bH T.tK) aG))) (cZ (aq (bH T.Jy) aG))))
   (aL (lL 2 PK.nd (fC qg (fC qg (cZ (aq (bH T.ahW) aG)) (cJ Vp (hr.mono (by decide)) rfl T.Vk T.xW.kp T.Dl .nil dz (aq (cJ Mm (hr.mono (by decide)) rfl T.YB T.Fi.kp T.Lw .nil dz (aq (pv 0) aG)) (aq (bH T.Hu) aG)))) (cZ (aq (bH T.Yp) aG))))
   (aK (bB (fC qg (fC qg (pv 1) (pv 0)) (pv 2)))))),?_⟩
  walk_at "rd";have hsum:xK l<10^5:=cM (Vr _ (by decide)) (by decide);refine ⟨_,.inl (cY.of ha),l.length,6,by rw [ao];rfl,by decide,by decide,Vs hl (by decide),λD1 H1 hD1 s1 h1=>?_⟩;refine ⟨by rw [sizeLine_eq];decide,λp hp=>?_⟩;generalize ep:upd H1 p _=H2;obtain ⟨s2,s12,hp',h2⟩:=iz s1 hp ep;refine ⟨D1,rfl,_,s12 _ _ h1,_,h2,by rw [sizeLine_eq];simp only [aJ,ao,qe,aH,bF];omega,λp1 hp1=>?_⟩;generalize ep1:upd H2 p1 _=H3;obtain ⟨s3,s23,Hy,h3⟩:=iz s2 hp1 ep1;refine ⟨by rw [sizeLine_eq];decide,λp2 hp2=>?_⟩;generalize ep2:upd H3 p2 _=H4;obtain ⟨s4,s34,hp2',h4⟩:=iz s3 hp2 ep2;refine ⟨a,l,rfl,cY.of (s4 _ _ ha),by rw [sizeLine_eq];omega,λH5 Xi=>?_⟩;have s5:=s4.trans Xi;refine ⟨xK l,5,rfl,by decide,by decide,hsum,λD2 H6 hD2 s56 h6=>?_⟩;have s6:=s5.trans s56;refine ⟨D2,rfl,_,s56 _ _ (Xi _ _ h4),_,h6,by rw [sizeLine_eq];simp only [aJ,ao,qe,aH,bF];omega,λp3 hp3=>?_⟩;generalize ep3:upd H6 p3 _=H7;obtain ⟨s7,s67,VR,h7⟩:=iz s6 hp3 ep3;refine ⟨by rw [sizeLine_eq];decide,λp4 hp4=>?_⟩;generalize ep4:upd H7 p4 _=H8;obtain ⟨s8,s78,awN,h8⟩:=iz s7 hp4 ep4;refine ⟨_,s78 _ _ h7,_,h8,by rw [sizeLine_eq];simp only [aJ,ao,qe,aH,bF];omega,λp5 hp5=>?_⟩;generalize ep5:upd H8 p5 _=H9;obtain ⟨s9,s89,awM,h9⟩:=iz s8 hp5 ep5;refine ⟨_,s89 _ _ (s78 _ _ (s67 _ _ (s56 _ _ (Xi _ _ (s34 _ _ h3))))),_,s9 _ _ ha,by rw [sizeLine_eq];simp only [aJ,ao,qe,aH,bF];omega,λp6 hp6=>?_⟩;generalize ep6:upd H9 p6 _=H10;obtain ⟨s10,as4,awL,h10⟩:=iz s9 hp6 ep6;refine ⟨_,h10,_,as4 _ _ h9,by rw [sizeLine_eq];simp only [aJ,ao,qe,aH,bF];omega,λp7 hp7=>?_⟩;generalize ep7:upd H10 p7 _=H11;obtain ⟨s11,auZ,at7,h11⟩:=iz s10 hp7 ep7;have e:bV (jZ 6 l.length)++[V.int 32]++bV l++([V.int 35]++bV (jZ 5 (xK l))++[V.int 10])=bV (Eu l):=by
   unfold Eu;simp
  exact q p7 H11 at7 s11 (by rw [h11,e])))
theorem agd(T:Txt P w K mg A):fU P w K mg base mU 3 A.qw A.oU uZ (pH A (λl=>.write l) λl=>l.length<=3000):=(by apply aj:aa (by
 have gP:=Fx (base:=base) T;have akb:=af5 (base:=base) T;refine T.uH.ok VH (λvs H Q E h=>?_) (λcdv A' outer s H vs Q E hr h=>?_)
 ·obtain ⟨d,a,st,S,args,rfl,_⟩:=h;rfl
 ·obtain ⟨d,a,st,S,args,rfl,hD,na,ha,hl,pre,q⟩:=h;refine ⟨_,(aL (dW (PW.pt (pw_or (kO (lN (cJ gP (hr.mono (by decide)) rfl T.mj T.iB.kp T.jr .nil dz (aq (pv 1) aG)))) (pw_or1 (kO (qd ni ni bG (cH cW rfl T.jG bI (aq (pv 1) aG)) (bH T.Dg)))))) (aK (bB (cZ (aq (bH T.iI) aG)))) b7)
   (aK (bB (fC qg (cZ (aq bG aG)) (cJ akb (hr.mono (by decide)) rfl T.ajC T.Mu.kp T.Up .nil dz (aq (pv 1) aG)))))),?_⟩
  obtain ⟨dx,j,ta,b,N,L,S0,hd,hJ,hN,hS0,sj,sta,sd,nd⟩:=hD.ex;obtain ⟨Oi,hj⟩:=hJ.ob;obtain ⟨BV,hb⟩:=hJ.bk.bk;walk_at "rd";refine ⟨a,args,rfl,cY.of ha,by rw [sizeLine_eq];omega,λH1 s1=>⟨_,rfl,?_⟩⟩;cases hby:gK args with
  |false=>
   rw [if_pos rfl];exact jh (eQ hD (oK (c:=.write args) (by show (gK args&&_)=false;rw [hby];rfl)) q) s1
  |true=>
   rw [if_neg (by simp)];obtain ⟨e1,e2⟩:=K6 hby;refine ⟨_,.inl (cY.of (s1 _ _ ha)),?_⟩;have l1:((iV args).length:Int)=(args.length:Int):=by simp
   rw [l1];have out:¬(1<=args.length/\args.length<=200)->∀(D:Addr) (H':Hp),bh H H'->H D=none->H' D=some (.lst (iV [-1]))->Q (.ref D) H':=λhh=>by
    refine eQ hD (oK (c:=.write args) ?_) q;show (gK args&&(decide (1<=args.length)&&decide (args.length<=200)))=false;simp only [jP,decide_eq_false_iff_not];omega
   by_cases c1:(1:Int)<=args.length
   ·rw [if_pos c1];by_cases c2:(args.length:Int)<=200
    ·rw [if_neg (by simpa using c2)];have hst:bC st (.write args)=(st,qJ (Eu (dI args))):=by
      unfold bC;rw [if_neg];show ¬(gK args&&(decide (1<=args.length)&&decide (args.length<=200)))=false;rw [hby,decide_eq_true (by omega),decide_eq_true (by omega)];simp
     have k:=eQ hD hst q;refine ⟨by rw [sizeLine_eq];decide,λp hp=>?_⟩;generalize ep:upd H1 p _=H2;obtain ⟨s2,s12,hp',h2⟩:=iz s1 hp ep;refine ⟨a,dI args,rfl,by rw [<-e1];exact s2 _ _ ha,by rw [e2];omega,λD H3 Zz s3 h3=>⟨D,rfl,?_⟩⟩;refine N6 k (s2.trans s3) (s3 _ _ h2) h3 ?_ (by rw [RD];rfl);rw [sizeLine_eq];unfold Eu;simp only [ao,aJ,aH,bF,qe,e2];omega
    ·rw [if_pos (by simpa using c2)];exact jh (out (by omega)) s1
   ·rw [if_neg c1];exact jh (out (by omega)) s1))
theorem Gd{J:It}{g:TG}{tb:TS}{D:Ends}{σ0:St}{H0:Hp}(n:Nat)(I:Nat->St->Hp->Prop)(h0:I 0 σ0 H0)(stop:∀σ H,I n σ H->J.stop n H/\D.nx σ H)(go:∀i σ H,i<n->I i σ H->J.go i H/\∀x H',J.yld i H x H'->g x σ H' λσ2 H2=>tb {D with nx:=I (i+1),ct:=I (i+1),bk:=D.nx} σ2 H2):
  ∃W:Nat->Nat->St->Hp->Prop,(∃m,W 0 m σ0 H0)/\∀i m σ H,W i m σ H->
   (J.stop i H/\D.nx σ H)\/(J.go i H/\∃N:St->Hp->Prop,(∀σ' H',N σ' H'->∃m',m'<m/\W (i+1) m' σ' H')/\∀x H',J.yld i H x H'->g x σ H' λσ2 H2=>tb {D with nx:=N,ct:=N,bk:=D.nx} σ2 H2):=by
 refine ⟨λi m σ H=>m=n - i/\i<=n/\I i σ H,⟨_,rfl,eX _,h0⟩,?_⟩;rintro i m σ H ⟨rfl,hi,hI⟩;by_cases hlt:i<n
 ·obtain ⟨g1,g2⟩:=go i σ H hlt hI;exact .inr ⟨g1,I (i+1),λσ' H' h=>⟨n - (i+1),by omega,rfl,hlt,h⟩,g2⟩
 ·obtain rfl:i=n:=by omega
  exact .inl (stop σ H hI)
theorem ack{K:az}{i j:Nat}{σ:St}{H:Hp}{t:Addr}{x y:V}{Q:St->Hp->Prop}(h:Q ((σ.set i (some x)).set j (some y)) (upd H t (.tup [x,y]))):ajG K 2 (Pg (wz i) (Pg (wz j) al7)) (.ref t) σ (upd H t (.tup [x,y])) Q:=
 ⟨t,[x,y],rfl,Ol.of aD,rfl,x,[y],rfl,y,[],rfl,rfl,h⟩
noncomputable def yr (B:aC) (n:Nat):Bool:=(B.records[n]?).any λr=>r.move.isSome&& !r.back
theorem akX(B:aC):yr B=λi=>match B.records[i]? with
  |some r=>r.move.isSome&& !r.back
  |none=>false:=by
 funext i;unfold yr;cases B.records[i]? <;>rfl
noncomputable def Cz (u:dG):List Nat:=u.rank::u.name.length::u.name
theorem akP(l:List dG):bV (l.flatMap Cz)=iV (l.flatMap λu=>(u.rank:Int)::(u.name.length:Int)::Vbmiam.ints u.name):=by
 induction l with
 |nil=>rfl
 |cons u l ih=>
  rw [gw,gw];show (Cz u++l.flatMap Cz).map _=(((u.rank:Int)::(u.name.length:Int)::Vbmiam.ints u.name)++_).map V.int;rw [cT,cT];congr 1;unfold Cz;simp only [bu];congr 2;exact (RG u.name).symm
theorem aiC{l:List dG}{i:Nat}{k:Key}{x:V}(h:(jJ l)[i]? =some (k,x)):∃u,l[i]? =some u/\k=bW (tx u.name)/\x=V.int (u.rank:Int):=by
 unfold jJ at h;rw [aW,dO] at h;obtain ⟨u,hu,e⟩:=h;exact ⟨u,hu,(eV e).1.symm,(eV e).2.symm⟩
theorem age(T:Txt P w K mg A):fU P w K mg base mU 1 A.qx A.oV u9 (pH A (λl=>.users) λl=>l.length=0):=(by apply aj:aa (by
 refine T.uI.ok j9 (λvs H Q E h=>?_) (λcdv A' outer s H vs Q E hr h=>?_)
 ·obtain ⟨d,a,st,S,args,rfl,_⟩:=h;rfl
 ·obtain ⟨d,a,st,S,args,rfl,hD,na,ha,hl,pre,q⟩:=h;refine ⟨_,(aL (lL 2 j9.nd (aO (aO (aO (pv 0) rfl) rfl) rfl))
   (aL (lL 3 j9.nd (cZ (aq bG (aq (cH wM rfl T.jG bI (aq (pv 2) aG)) aG))))
   (aL (ab4 (Hi ji rfl (aea (pv 2)) (uW (K:=K) (n:=2) rfl rfl (g8 (eZ (i:=4) j9.nd rfl (dZ rfl)) (g8 (eZ (i:=5) j9.nd rfl (dZ rfl)) uV))) (aL (jn (rM bY fj fc nA (pv 3) (aq (cZ (aq (pv 5) (aq (cH Ie rfl T.jG bI (aq (pv 4) aG)) aG))) aG)))
   (aK (jn (rM bY fj fc nA (pv 3) (aq (yU rfl j9.nd (XC (pv 4)) (iJ (N:=Mi) (sc:=aX uP) (own:=[("sign",6)]) (by decide+kernel)) (λ_ _ _ _ _=>(eZ (i:=6) j9.nd rfl (dZ rfl) (hf:=gF rfl))) (λ_ _ _ _ _=>kJ) (λ_ _ _ _ _=>(cH Y6 rfl T.alr boot_ord (aq (pv 6) aG)))) aG)))))))
   (aK (bB (pv 3)))))),?_⟩
  obtain ⟨dx,j,ta,b,N,L,S0,hd,hJ,hN,hS0,sj,sta,sd,nd⟩:=hD.ex;obtain ⟨Oi,hj⟩:=hJ.ob;obtain ⟨BV,hb⟩:=hJ.bk.bk;have k:=eQ hD (x:=bC st .users) rfl q;walk_at "rd";refine ⟨_,_,_,hd,T.mH,T.cV,_,rfl,_,rfl,_,_,_,hj,T.bR,T.cI,_,rfl,_,rfl,_,_,_,hb,T.cN,T.jq,_,rfl,_,rfl,_,hJ.bk.us,by rw [sizeLine_eq];decide,λp hp=>?_⟩;generalize ep:upd H p _=H1;obtain ⟨s1,_,_,hp1⟩:=iz (bh.refl H) hp ep;have npu:p≠L.us:=λz=>by rw [z,hJ.bk.us] at hp;cases hp
  have hul:(jJ st.books.users).length=st.books.users.length:=by unfold jJ;simp
  have hun:st.books.users.length<=8:=hJ.bk.ok.us;rw [hul] at hp1;unfold ahw;refine ⟨L.us,.dK (jJ st.books.users),s1 _ _ hJ.bk.us,trivial,λod=>?_⟩;have hk2:∀x o,x≠L.us->H1 x=some o->(upd H1 L.us (.xZ od (.dK (jJ st.books.users)))) x=some o:=λx o n h=>by rw [aF n];exact h
  have hu2:(upd H1 L.us (.xZ od (.dK (jJ st.books.users)))) L.us=some (.xZ od (.dK (jJ st.books.users))):=aD;revert hk2 hu2;generalize (upd H1 L.us (.xZ od (.dK (jJ st.books.users))))=H2;intro hk2 hu2;have ul:∀i,((st.books.users.take i).flatMap Cz).length<=10*i:=λi=>by
   have key:∀l:List dG,(∀u∈l,u.name.length<=8)->(l.flatMap Cz).length<=10*l.length:=λl=>by
    induction l with
    |nil=>simp
    |cons x l ih=>
     intro hh;have i1:=ih λy hy=>hh y (aV _ hy);have i2:=hh x bz;rw [gw,aJ];have:(Cz x).length=x.name.length+2:=by unfold Cz;simp
     simp only [aH];omega
   refine aY (key _ λu hu=>?_) (by rw [bO];omega);have:=hJ.bk.ok.un u (akE hu);unfold bj at this;simp only [bf,decide_eq_true_eq] at this;exact this.2.2
  refine ⟨L.us,od,_,rfl,hu2,Gd st.books.users.length (λi σ H'=>(∃v1 v2 v3,σ=[some (.ref d),some (.ref a),some (.ref L.us),some (.ref p),v1,v2,v3])/\H' L.us=some (.xZ od (.dK (jJ st.books.users)))/\
   H' p=some (.lst (V.int 0::V.int (st.books.users.length:Int)::bV ((st.books.users.take i).flatMap Cz)))/\∀x o,H x=some o->x≠L.us->H' x=some o) ⟨⟨_,_,_,rfl⟩,hu2,hk2 _ _ npu hp1,λx o h n=>hk2 x o n (s1 x o h)⟩ ?_ ?_⟩
  ·rintro σ H3 ⟨⟨v1,v2,v3,rfl⟩,h1,h2,h3⟩;refine ⟨⟨h1,by rw [hul];exact aU _⟩,h1,?_⟩;walk_at "rd";rw [lM] at h2;refine k p _ (λx o h=>?_) hp ?_
   ·by_cases hx:x=L.us
    ·rw [hx,aD];rw [hx,hJ.bk.us] at h;exact h
    ·rw [aF hx];exact h3 x o h hx
   ·rw [aF npu,h2];rw [akP];rfl
  ·rintro i σ H3 hi ⟨⟨v1,v2,v3,rfl⟩,h1,h2,h3⟩;refine ⟨⟨h1,by rw [hul];exact hi⟩,?_⟩;rintro x H4 ⟨t,ky,v,hkv,rfl,ht,rfl⟩;obtain ⟨u,hu,rfl,rfl⟩:=aiC hkv;refine ack ?_;generalize et:upd H3 t _=H4;obtain ⟨_,s34,_,_⟩:=iz (bh.refl H3) ht et;have hnl:u.name.length<=8:=by
    have:=hJ.bk.ok.un u (aM hu);unfold bj at this;simp only [bf,decide_eq_true_eq] at this;exact this.2.2
   have awC:=ul i;have etk:(st.books.users.take (i+1)).flatMap Cz=(st.books.users.take i).flatMap Cz++Cz u:=by rw [take_succ hu,oF];simp
   walk_at "rd";have hp4:=s34 _ _ h2;have hz:(tx u.name).length=u.name.length:=Th u.name;refine ⟨.inl ⟨rfl,_,cY.of hp4⟩,tx u.name,rfl,by rw [hz,sizeLine_eq];omega,by rw [sizeLine_eq];decide,λp5 hp5=>?_⟩;generalize e5:upd H4 p5 _=H5;obtain ⟨_,Xi,_,h5⟩:=iz (bh.refl H4) hp5 e5;refine ⟨_,Xi _ _ hp4,_,h5,by rw [sizeLine_eq];simp only [aH,ao,bF];omega,?_⟩;have n5:p≠p5:=λz=>by rw [<-z,hp4] at hp5;cases hp5
   generalize e6:upd H5 p _=H6;have hp6:H6 p=some (.lst ((V.int 0::V.int (st.books.users.length:Int)::bV ((st.books.users.take i).flatMap Cz))++[V.int (u.rank:Int),V.int ((tx u.name).length:Int)])):=by rw [<-e6,aD]
   have k6:∀y o,y≠p->H5 y=some o->H6 y=some o:=λy o n h=>by rw [<-e6,aF n];exact h
   refine ⟨.inl ⟨rfl,_,cY.of hp6⟩,_,rfl,Wf arB (by show u.name.toArray.size<=_;rw [bN,sizeLine_eq];omega) ?_ ?_⟩
   ·intro i' c H7 R hc s7 h;walk_at "rd";exact ⟨rfl,h H7 (bh.refl H7)⟩
   ·intro D H7 hD7 s7 h7;have aw8:D≠p:=λz=>by rw [z,hp6] at hD7;cases hD7
    refine ⟨D,rfl,_,s7 _ _ hp6,_,h7,by rw [sizeLine_eq];simp only [aH,ao,bF,aJ];show _+u.name.length<=_;omega,?_,?_,λy o h n=>?_⟩
    ·rw [aF (cO npu)];exact s7 _ _ (k6 _ _ (cO npu) (Xi _ _ (s34 _ _ h1)))
    ·rw [aD,etk,hz];unfold Cz;simp;rfl
    ·have ny:y≠p:=λz=>by rw [z,hp] at h;cases h
     rw [aF ny];exact s7 _ _ (k6 _ _ ny (Xi _ _ (s34 _ _ (h3 y o h n))))))
theorem ai6(T:Txt P w K mg A):fU P w K mg base mU 1 A.mC A.lC pO (pH A (λl=>.open_) λl=>l.length=0):=(by apply aj:aa (by
 refine T.pJ.ok nU (λvs H Q E h=>?_) (λcdv A' outer s H vs Q E hr h=>?_)
 ·obtain ⟨d,a,st,S,args,rfl,_⟩:=h;rfl
 ·obtain ⟨d,a,st,S,args,rfl,hD,na,ha,hl,pre,q⟩:=h;refine ⟨_,(aL (lL 2 nU.nd (cZ (aq bG aG)))
   (aL (Hi ji rfl (XD rfl T.KC (aq (aO (aO (aO (pv 0) rfl) rfl) rfl) aG)) (uW (K:=K) (n:=2) rfl rfl (g8 (eZ (i:=3) nU.nd rfl (dZ rfl)) (g8 (eZ (i:=4) nU.nd rfl (dZ rfl)) uV))) (aK (dW (PW.pt (pw_and (bZ Ro (aO (pv 4) rfl) nY (cP _)) (pw_and1 (kO (lN (aO (pv 4) rfl)))))) (aK (jn (rM bY gR gQ uo (pv 2) (aq (pv 3) aG)))) b7)))
   (aK (bB (pv 2))))),?_⟩
  obtain ⟨dx,j,ta,b,N,L,S0,hd,hJ,hN,hS0,sj,sta,sd,nd⟩:=hD.ex;obtain ⟨Oi,hj⟩:=hJ.ob;obtain ⟨BV,hb⟩:=hJ.bk.bk;have k:=eQ hD (x:=bC st .open_) rfl q;walk_at "rd";refine ⟨by rw [sizeLine_eq];decide,λp hp=>?_⟩;generalize ep:upd H p _=H1;obtain ⟨s1,_,_,hp1⟩:=iz (bh.refl H) hp ep;have hrl:(L.rs.map V.ref).length=st.books.records.length:=by rw [ao,hJ.bk.Cr]
  refine ⟨d,rfl,_,_,_,s1 _ _ hd,T.mH,T.cV,_,rfl,j,rfl,_,_,_,s1 _ _ hj,T.bR,T.cI,_,rfl,b,rfl,_,_,_,s1 _ _ hb,T.cN,T.fD,_,rfl,L.re,_,rfl,cY.of (s1 _ _ hJ.bk.re),
   Gd st.books.records.length (λi σ H'=>(∃v1 v2,σ=[some (.ref d),some (.ref a),some (.ref p),v1,v2])/\
   H' p=some (.lst (V.int 0::bV (((iR i).filter (yr st.books)).map λn=>n+1)))/\bh H H') ⟨⟨_,_,rfl⟩,hp1,s1⟩ ?_ ?_⟩
  ·rintro σ H3 ⟨⟨v1,v2,rfl⟩,h2,h3⟩;refine ⟨⟨_,cY.of (h3 _ _ hJ.bk.re),by rw [hrl];exact aU _⟩,?_⟩;walk_at "rd";exact k p H3 h3 hp (by rw [h2,RD,akX];rfl)
  ·rintro i σ H3 hi ⟨⟨v1,v2,rfl⟩,h2,h3⟩;obtain ⟨r,hr0⟩:∃r,st.books.records[i]? =some r:=⟨_,ak hi⟩;obtain ⟨ra,RK⟩:∃ra,L.rs[i]? =some ra:=⟨_,ak (by rw [hJ.bk.Cr];exact hi)⟩;obtain ⟨e0,he0⟩:∃e0,st.ends[i]? =some e0:=⟨_,ak (by rw [hJ.bk.esl];exact hi)⟩;obtain ⟨dxr,u,v,g1,g2,g3⟩:=hJ.bk.rat _ r ra e0 hr0 RK he0;have hx0:(L.rs.map V.ref)[i]? =some (.ref ra):=by rw [aW,RK];rfl
   refine ⟨⟨_,_,cY.of (h3 _ _ hJ.bk.re),hx0⟩,?_⟩;rintro x H4 ⟨t,y,rfl,ht,rfl,hy⟩;have hy:=hy _ (cY.of (h3 _ _ hJ.bk.re));rw [hx0] at hy;obtain rfl:V.ref ra=y:=aB hy;refine ack ?_;generalize et:upd H3 t _=H4;obtain ⟨_,s34,_,_⟩:=iz (bh.refl H3) ht et;have s4:=h3.trans s34;have hp4:=s34 _ _ h2;have hlen:(((iR i).filter (yr st.books)).map λn=>n+1).length<=i:=by
    rw [ao];exact aY (yR _ _) (by rw [List.length_range];exact aU _)
   have hsp:yr st.books i=(r.move.isSome&& !r.back):=by unfold yr;rw [hr0];rfl
   have eno:yr st.books i=false->((iR (i+1)).filter (yr st.books)).map (λn=>n+1)=((iR i).filter (yr st.books)).map λn=>n+1:=λh=>by
    rw [Cv,Fe,tQ,h];simp
   have auv:yr st.books i=true->((iR (i+1)).filter (yr st.books)).map (λn=>n+1)=(((iR i).filter (yr st.books)).map λn=>n+1)++[i+1]:=λh=>by
    rw [Cv,Fe,tQ,h];simp
   have hrn:=hJ.nl;have hjl:=hD.len;walk_at "rd";refine ⟨_,_,_,s4 _ _ g1,T.dg,T.d9,_,rfl,!decide (v=V.non),by rw [j8],?_⟩;cases hm:r.move with
   |none=>
    rw [hm] at g2;have g2:v= .non:=g2;rw [decide_eq_true g2,if_neg (by simp)];exact ⟨by rw [eno (by rw [hsp,hm];rfl)];exact hp4,s4⟩
   |some m=>
    rw [hm] at g2;obtain ⟨ma,la,hv,_⟩:=g2;rw [decide_eq_false (by rw [hv];simp),if_pos (by simp)];refine ⟨_,_,_,s4 _ _ g1,T.dg,T.jf,_,rfl,r.back,rfl,?_⟩;cases hbk:r.back with
    |true=>
     rw [if_neg (by simp)];exact ⟨by rw [eno (by rw [hsp,hm,hbk];rfl)];exact hp4,s4⟩
    |false=>
     rw [if_pos rfl];refine ⟨.inl ⟨rfl,_,cY.of hp4⟩,_,hp4,by rw [sizeLine_eq];simp only [aH,ao] at hlen⊢;omega,?_,s4.put hp⟩;rw [aD,auv (by rw [hsp,hm,hbk];rfl)];simp))
theorem aci{X:Cx}{K:az}{e:Expr}{ta:TE}{f:Str}{pos:Pos}(hK:X.K=K)(he:PE X e ta)(hb:attributeBase e f X.env (eval e X.env)=eval e X.env):PE X (.Attribute e f pos) (aqC K ta f):=by
 subst hK;exact aO he hb
noncomputable def XN (B:aC) (k:eU) (m:bK):Int:=(if (jV B m.to_).kind=k then 1 else 0) - (if (jV B m.from_).kind=k then 1 else 0)
noncomputable def apU (m:bK):List Int:=(m.kg:Int)::m.metals.map λn:Nat=>(n:Int)
theorem ajO(l:List Int)(x:Int):(l++[x]).foldl (λx y=>x+y) 0=l.foldl (λx y=>x+y) 0+x:=by
 rw [Wu];rfl
theorem anc(B:aC)(k:eU):gC B [] k=bx (1+B.metals.length) 0:=by
 unfold gC;rw [Wt,fM];simp only [jE,List.foldl_nil];congr 1;apply List.ext_getElem
 ·simp
 ·intro i h1 h2;simp
theorem alm(B:aC)(l:List bK)(m:bK)(k:eU)(hm:m.metals.length=B.metals.length):
  gC B (l++[m]) k=bM (λt p=>t+XN B k m*p) (gC B l k) (apU m):=by
 unfold gC apU;simp only [cT,bu,jE,ajO,List.zipWith_cons_cons];congr 1;apply List.ext_getElem
 ·simp [hm]
 ·intro i h1 h2;have hi:i<m.metals.length:=by simp at h1;omega
  simp [cC,ak hi,XN]
theorem acz(B:aC)(l:List bK)(k:eU):(gC B l k).length=1+B.metals.length:=by
 unfold gC;simp;omega
theorem Yh{a b:eU}:eF a=eF b↔a=b:=by
 constructor
 ·intro h;cases a<;>cases b<;>first | rfl | exact absurd h (by decide)
 ·intro h;rw [h]
noncomputable def arC (s:Int):V->V->V
 |.int t,.int p=>.int (t+s*p)
 |_,_=>.non
theorem ahn(s:Int):∀xs ys:List Int,iV (bM (λt p=>t+s*p) xs ys)=bM (arC s) (iV xs) (iV ys)
 |[],_=>by simp
 |_::_,[]=>by simp
 |x::xs,y::ys=>by
  have:=ahn s xs ys;exact congrArg (V.int (x+s*y)::·) this
inductive aoM(A:uw)(vs:List V)(H:Hp)(Q:VK)(E:XK):Prop
 |mk (ma la b:Addr) (N:Nat) (B:aC) (es:List Nat) (L:Lay) (S:Addr->Prop) (m:bK) (k:eU) (_:vs=[.ref ma,.str (eF k)]) (_:bJ A N H b B es L S) (_:qI A H L ma la m) (_:m.from_<B.places.length) (_:m.to_<B.places.length) (_:Q (.int (XN B k m)) H)
theorem aoZ(T:Txt P w K mg A):fU P w K mg base mU 1 A.amd A.YK ahL (aoM A):=(by apply aj:aa (by
 refine T.ahs.ok afV (λvs H Q E h=>?_) (λcdv A' outer s H vs Q E hr h=>?_)
 ·obtain ⟨ma,la,b,N,B,es,L,S,m,k,rfl,_⟩:=h;rfl
 ·obtain ⟨ma,la,b,N,B,es,L,S,m,k,rfl,hB,hM,g1,g2,q⟩:=h;refine ⟨_,(aL (lL 2 afV.nd (xX (bZ oN (aO (aO (pv 0) rfl) rfl) (pv 1) (cP _)) bG bG))
   (aL (lL 3 afV.nd (xX (bZ oN (aO (aO (pv 0) rfl) rfl) (pv 1) (cP _)) bG bG))
   (aK (bB (fC DY (pv 2) (pv 3)))))),?_⟩
  obtain ⟨dxm,sa,tg,hM1,hM2,hM3⟩:=hM.ob;obtain ⟨⟨pa,pla⟩,hps⟩:∃y,L.ps[m.from_]? =some y:=⟨_,ak (by rw [hB.yE];exact g1)⟩;obtain ⟨⟨pb,plb⟩,hpt⟩:∃y,L.ps[m.to_]? =some y:=⟨_,ak (by rw [hB.yE];exact g2)⟩;rw [hps] at hM2;rw [hpt] at hM3;obtain rfl:pa=sa:=aB hM2;obtain rfl:pb=tg:=aB hM3;obtain ⟨dx1,hP1⟩:=(hB.pat m.from_ _ pa pla (ak g1) hps).ob;obtain ⟨dx2,hP2⟩:=(hB.pat m.to_ _ pb plb (ak g2) hpt).ob;have a1:jV B m.from_=B.places[m.from_]:=by unfold jV;rw [cC,ak g1];rfl
  have a2:jV B m.to_=B.places[m.to_]:=by unfold jV;rw [cC,ak g2];rfl
  walk_at "rd";have e0:XN B k m=(if B.places[m.to_].kind=k then 1 else 0) - (if B.places[m.from_].kind=k then 1 else 0):=by unfold XN;rw [a1,a2]
  rw [e0] at q;refine ⟨_,_,_,hM1,T.mG,T.lu,_,rfl,pb,rfl,_,_,_,hP2,T.d7,T.iH,_,rfl,rfl,?_⟩;by_cases h1:B.places[m.to_].kind=k
  ·rw [if_pos (by rw [h1])];rw [if_pos h1] at q;refine ⟨_,_,_,hM1,T.mG,T.lA,_,rfl,pa,rfl,_,_,_,hP1,T.d7,T.iH,_,rfl,rfl,?_⟩;by_cases h2:B.places[m.from_].kind=k
   ·rw [if_pos (by rw [h2])];rw [if_pos h2] at q;exact q
   ·rw [if_neg λz=>h2 (Yh.mp (V.str.inj z))];rw [if_neg h2] at q;exact q
  ·rw [if_neg λz=>h1 (Yh.mp (V.str.inj z))];rw [if_neg h1] at q;refine ⟨_,_,_,hM1,T.mG,T.lA,_,rfl,pa,rfl,_,_,_,hP1,T.d7,T.iH,_,rfl,rfl,?_⟩;by_cases h2:B.places[m.from_].kind=k
   ·rw [if_pos (by rw [h2])];rw [if_pos h2] at q;exact q
   ·rw [if_neg λz=>h2 (Yh.mp (V.str.inj z))];rw [if_neg h2] at q;exact q))
noncomputable def Xl (H:Hp):V->Option V
 |.ref a=>match H a with | some (.ins _ _ fs)=>fs.lookup (bA "month") | _=>none
 |_=>none
noncomputable def Rj (H:Hp):V->V
 |.ref a=>match H a with | some (.ins _ _ fs)=>(fs.lookup (bA "move")).getD .non | _=>.non
 |_=>.non
noncomputable def ai3 (H:Hp) (mo:Nat) (v:V):Bool:=decide (Xl H v=some (V.int (mo:Int)))&& !decide (Rj H v= .non)
theorem TQ{H:Hp}{ra C dx:Addr}{e mo c:Nat}{u:Str}{bk:Bool}{v:V}(h:H ra=some (.ins C dx (nW e mo u c bk v))):Xl H (.ref ra)=some (V.int (mo:Int))/\Rj H (.ref ra)=v:=by
 unfold Xl Rj
 try dsimp only
 rw [h];exact ⟨rfl,rfl⟩
theorem aew{H:Hp}{L:Lay}{S:Addr->Prop}{mo:Nat}:∀(rs:List Addr) (es:List Nat) (l:List jw),rs.length=l.length->es.length=l.length->
  (∀(i:Nat) (r:jw) (a:Addr) (e:Nat),l[i]? =some r->rs[i]? =some a->es[i]? =some e->RecAt A H L S a e r)->
  ∃mas:List Addr,((rs.map V.ref).filter (ai3 H mo)).map (Rj H)=mas.map V.ref/\mas.length=((l.filter λr=>r.month==mo).filterMap λr=>r.move).length/\
   ∀(i:Nat) (ma:Addr) (m:bK),mas[i]? =some ma->((l.filter λr=>r.month==mo).filterMap λr=>r.move)[i]? =some m->∃la,qI A H L ma la m
 |[],es,[],_,_,_=>⟨[],rfl,rfl,λi ma m h=>by simp at h⟩
 |a::rs,[],r::l,_,h,_=>by simp at h
 |a::rs,e::es,r::l,h1,h2,h3=>by
  obtain ⟨mas,i1,i2,i3⟩:=aew rs es l (by simpa using h1) (by simpa using h2) λi r a e q1 q2 q3=>h3 (i+1) r a e q1 q2 q3;obtain ⟨dx,u,v,g1,g2,g3⟩:=h3 0 r a e rfl rfl rfl;obtain ⟨r1,r2⟩:=TQ g1;rw [bu,tQ,tQ];have hp:ai3 H mo (.ref a)=(r.month==mo&&r.move.isSome):=by
   unfold ai3;rw [r1,r2];have c1:decide (some (V.int (r.month:Int))=some (V.int (mo:Int)))=(r.month==mo):=by
    by_cases q:r.month=mo
    ·rw [q];simp
    ·have:¬((r.month:Int)=(mo:Int)):=by omega
     simp [q,this]
   rw [c1];congr 1;cases hm:r.move with
   |none=>
    rw [hm] at g2;have g2:v= .non:=g2;rw [g2];rfl
   |some m=>
    rw [hm] at g2;obtain ⟨ma,la,hv,_⟩:=g2;rw [hv];rfl
  rw [hp];cases hmo:(r.month==mo) with
  |false=>
   simp only [eO,cD,if_false];exact ⟨mas,i1,i2,i3⟩
  |true=>
   cases hm:r.move with
   |none=>
    simp only [jk,gj,cD,if_false,if_true];refine ⟨mas,i1,?_,λi ma m q1 q2=>i3 i ma m q1 ?_⟩
    ·rw [fZ,hm];exact i2
    ·rw [fZ,hm] at q2;exact q2
   |some m=>
    rw [hm] at g2;obtain ⟨ma,la,hv,hM,_⟩:=g2;simp only [gG,dF,if_true];refine ⟨ma::mas,?_,?_,λi ma' m' q1 q2=>?_⟩
    ·rw [bu,r2,hv,i1];rfl
    ·rw [fZ,hm];simpa using i2
    ·rw [fZ,hm] at q2;cases i with
     |zero=>
      simp at q1 q2;subst q1 q2;exact ⟨la,hM⟩
     |succ i=>
      simp at q1 q2;exact i3 i ma' m' q1 q2
inductive adN(A:uw)(vs:List V)(H:Hp)(Q:VK)(E:XK):Prop
 |mk (b:Addr) (N:Nat) (B:aC) (es:List Nat) (L:Lay) (S:Addr->Prop) (mo:Nat) (_:vs=[.ref b,.int (mo:Int)]) (_:bJ A N H b B es L S) (_:B.records.length<=10000) (_:∀(D:Addr) (H':Hp) (mas:List Addr),H D=none->bh H H'->H' D=some (.lst (mas.map V.ref))->mas.length=(dN B mo).length->(∀(i:Nat) (ma:Addr) (m:bK),mas[i]? =some ma->(dN B mo)[i]? =some m->∃la,qI A H L ma la m)->Q (.ref D) H')
theorem aej(T:Txt P w K mg A):fU P w K mg base mU 1 A.Qp A.yg Hn (adN A):=(by apply aj:aa (by
 refine T.Gs.ok Kc (λvs H Q E h=>?_) (λcdv A' outer s H vs Q E hr h=>?_)
 ·obtain ⟨b,N,B,es,L,S,mo,rfl,_⟩:=h;rfl
 ·obtain ⟨b,N,B,es,L,S,mo,rfl,hB,hn,q⟩:=h;refine ⟨_,(aK (bB (yU rfl Kc.nd (uU (aO (pv 0) rfl)) (iJ (N:=Zh) (sc:=aX G6) (own:=[("record",2)]) (by decide+kernel)) (λ_ _ _ _ _=>(eZ (i:=2) Kc.nd rfl (dZ rfl) (hf:=gF rfl))) (λ_ _ _ _ _=>ahG (PW.pt (pw_and (bZ oN (aci (K:=K) rfl (pv 2) rfl) (pv 1) (cP _)) (pw_and1 (bZ Ro (aci (K:=K) rfl (pv 2) rfl) nY (cP _)))))) (λ_ _ _ _ _=>(aci (K:=K) rfl (pv 2) rfl))))),?_⟩;obtain ⟨BV,hb⟩:=hB.bk;walk_at "rd";obtain ⟨mas,m1,m2,m3⟩:=aew (mo:=mo) L.rs es B.records hB.Cr hB.esl hB.rat;refine ⟨b,rfl,_,_,_,hb,T.cN,T.fD,_,rfl,L.re,rfl,⟨_,cY.of hB.re⟩,Ye (ai3 H mo) (Rj H) (cY.of hB.re) (by rw [ao,hB.Cr,sizeLine_eq];omega) ?_ ?_ ?_⟩
  ·intro i x H1 R hx s1 h;rw [aW,dO] at hx;obtain ⟨ra,hra,rfl⟩:=hx;have hi:i<B.records.length:=by rw [<-hB.Cr];exact (aQ.mp hra).1
   obtain ⟨dx,u,v,g1,g2,g3⟩:=hB.rat i _ ra _ (ak hi) hra (ak (by rw [hB.esl];exact hi));obtain ⟨r1,r2⟩:=TQ g1;have h:=h H1 (bh.refl H1);have hpm:ai3 H mo (.ref ra)=(decide (V.int (B.records[i].month:Int)=V.int (mo:Int))&& !decide (v= .non)):=by
    unfold ai3;rw [r1,r2];congr 1;exact decide_eq_decide.mpr (by simp)
   rw [hpm] at h;walk_at "rd";refine ⟨_,_,_,s1 _ _ g1,T.dg,T.tG,_,rfl,rfl,?_⟩;by_cases hmo:V.int (B.records[i].month:Int)=V.int (mo:Int)
   ·rw [if_pos hmo];rw [decide_eq_true hmo,dJ] at h;exact ⟨_,_,_,s1 _ _ g1,T.dg,T.d9,_,rfl,_,(j8 _).symm,h⟩
   ·rw [if_neg hmo];rw [decide_eq_false hmo,eO] at h;exact h
  ·intro i x H1 R hx hpx s1 h;rw [aW,dO] at hx;obtain ⟨ra,hra,rfl⟩:=hx;have hi:i<B.records.length:=by rw [<-hB.Cr];exact (aQ.mp hra).1
   obtain ⟨dx,u,v,g1,g2,g3⟩:=hB.rat i _ ra _ (ak hi) hra (ak (by rw [hB.esl];exact hi));obtain ⟨r1,r2⟩:=TQ g1;have h:=h H1 (bh.refl H1);rw [r2] at h;walk_at "rd";exact ⟨_,_,_,s1 _ _ g1,T.dg,T.d9,_,rfl,h⟩
  ·intro D H1 hD s1 h1;rw [m1] at h1;exact q D H1 mas hD s1 h1 m2 m3))
inductive adM(A:uw)(vs:List V)(H:Hp)(Q:VK)(E:XK):Prop
 |mk (b:Addr) (N:Nat) (B:aC) (es:List Nat) (L:Lay) (S:Addr->Prop) (mo:Nat) (k:eU) (_:vs=[.ref b,.int (mo:Int),.str (eF k)]) (_:bJ A N H b B es L S) (_:B.records.length<=10000) (_:∀(D:Addr) (H':Hp),H D=none->bh H H'->H' D=some (.lst (iV (gC B (dN B mo) k)))->Q (.ref D) H')
theorem Vd(T:Txt P w K mg A):fU P w K mg base mU 2 A.Qo A.yf Hm (adM A):=(by apply aj:aa (by
 have ag4:=aej (base:=base) T;have ar0:=aoZ (base:=base) T;refine T.Ar.ok p8 (λvs H Q E h=>?_) (λcdv A' outer s H vs Q E hr h=>?_)
 ·obtain ⟨b,N,B,es,L,S,mo,k,rfl,_⟩:=h;rfl
 ·obtain ⟨b,N,B,es,L,S,mo,k,rfl,hB,hn,q⟩:=h;refine ⟨_,(aL (lL 3 p8.nd (fC XH (cZ (aq bG aG)) (fC kW bG (cH cW rfl T.jG bI (aq (aO (pv 0) rfl) aG)))))
   (aL (Hi ji rfl (uU (cJ ag4 (hr.mono (by decide)) rfl T.agz T.Gs.kp T.Qv .nil dz (aq (pv 0) (aq (pv 1) aG)))) (eZ (i:=4) p8.nd rfl (dZ rfl)) (aL (lL 5 p8.nd (cJ ar0 (hr.mono (by decide)) rfl T.arA T.ahs.kp T.aml .nil dz (aq (pv 4) (aq (pv 2) aG))))
   (aK (Kr (i:=3) rfl p8.nd rfl rfl (Q8 rfl rfl rfl (by decide+kernel)) (Xz rfl T.aa1 (aq (pv 3) (aq (aO (pv 4) rfl) aG))) (iJ (N:=Zg) (sc:=aX G5) (own:=[("total",6),("part",7)]) (by decide+kernel)) (λ_ _ _ _ _=>(uW (K:=K) (n:=2) rfl rfl (g8 (eZ (i:=6) p8.nd rfl (dZ rfl) (hf:=gF rfl)) (g8 (eZ (i:=7) p8.nd rfl (dZ rfl) (hf:=gF rfl)) uV)))) (λ_ _ _ _ _=>kJ) (λ_ _ _ _ _=>(fC kW (pv 6) (fC XJ (pv 5) (pv 7))))))))
   (aK (bB (pv 3))))),?_⟩
  obtain ⟨BV,hb⟩:=hB.bk;have hme:B.metals.length<=2:=hB.ok.me;walk_at "rd";refine ⟨by rw [sizeLine_eq];decide,λp hp=>?_⟩;generalize ep:upd H p _=H1;obtain ⟨s1,_,_,hp1⟩:=iz (bh.refl H) hp ep;have hml:((B.metals.map λm=>V.str (tx m)).length:Int)=(B.metals.length:Int):=by rw [ao]
  refine ⟨_,_,_,s1 _ _ hb,T.cN,T.jt,_,rfl,_,rfl,_,.inl (cY.of (s1 _ _ hB.me)),_,hp1,by omega,by omega,by rw [sizeLine_eq,hml];simp only [aH,bF];omega,λp2 hp2=>?_⟩;generalize e2:upd H1 p2 _=H2;obtain ⟨s2,_,hp2',h2⟩:=iz s1 hp2 e2;have er:(bx (1+((B.metals.map λm=>V.str (tx m)).length:Int)).toNat [V.int 0]).flatten=iV (gC B [] k):=by
   rw [anc,hml,show (1+(B.metals.length:Int)).toNat=1+B.metals.length by omega];generalize 1+B.metals.length=n
   induction n with
   |zero=>rfl
   |succ n ih=>
    rw [fM,mY,ih,fM];rfl
  rw [er] at h2;refine ⟨b,N,B,es,L,S,mo,rfl,hB.same s2,hn,λD3 H3 mas hD3 s3 h3 ml mp=>⟨D3,rfl,⟨_,cY.of h3⟩,?_⟩⟩;have mp:∀(i:Nat) (ma:Addr) (m:bK),mas[i]? =some ma->(dN B mo)[i]? =some m->∃la,qI A H3 L ma la m:=λi ma m q1 q2=>let ⟨la,z⟩:=mp i ma m q1 q2;⟨la,z.keep (λo e=>s3 _ _ e) λo e=>s3 _ _ e⟩;have s03:=s2.trans s3;have hok:∀m∈dN B mo,m.from_<B.places.length/\m.to_<B.places.length/\m.metals.length=B.metals.length:=λm hm=>by
   unfold dN at hm;obtain ⟨r,hr1,hr2⟩:=Fb.mp hm;obtain ⟨z1,z2,_,z4,_⟩:=hB.ok.mv r (vY.mp hr1).1 m hr2;exact ⟨z1,z2,z4⟩
  have arj:(mas.map V.ref).length=mas.length:=ao ..;refine Gd mas.length (λi σ H'=>(∃D' v1 v2 v3 v4,σ=[some (.ref b),some (.int (mo:Int)),some (.str (eF k)),some (.ref D'),v1,v2,v3,v4]/\H' D'=some (.lst (iV (gC B ((dN B mo).take i) k)))/\H D'=none)/\bh H3 H')
   ⟨⟨p2,_,_,_,_,rfl,s3 _ _ h2,hp2'⟩,bh.refl H3⟩ ?_ ?_
  ·rintro σ H4 ⟨⟨D',v1,v2,v3,v4,rfl,h4,hD'⟩,s4⟩;refine ⟨⟨_,cY.of (s4 _ _ h3),by rw [arj];exact aU _⟩,?_⟩;walk_at "rd";rw [ml,lM] at h4;exact q D' H4 hD' (s03.trans s4) h4
  ·rintro i σ H4 hi ⟨⟨D',v1,v2,v3,v4,rfl,h4,hD'⟩,s4⟩;obtain ⟨ma,hma⟩:∃ma,mas[i]? =some ma:=⟨_,ak hi⟩;obtain ⟨m,hm⟩:∃m,(dN B mo)[i]? =some m:=⟨_,ak (by rw [<-ml];exact hi)⟩;have hx0:(mas.map V.ref)[i]? =some (.ref ma):=by rw [aW,hma];rfl
   obtain ⟨z1,z2,z3⟩:=hok m (aM hm);obtain ⟨la,hM⟩:=mp i ma m hma hm;have hM4:qI A H4 L ma la m:=hM.keep (λo e=>s4 _ _ e) λo e=>s4 _ _ e;refine ⟨⟨_,_,cY.of (s4 _ _ h3),hx0⟩,?_⟩;rintro x H5 ⟨rfl,hx⟩;have hx:=hx _ (cY.of (s4 _ _ h3));rw [hx0] at hx;obtain rfl:V.ref ma=x:=aB hx;obtain ⟨dxm,sa,tg,hm1,_⟩:=hM4.ob;walk_at "rd";refine ⟨ma,la,b,N,B,es,L,S,m,k,rfl,hB.same (s03.trans s4),hM4,z1,z2,?_⟩;refine ⟨ma,rfl,_,_,_,hm1,T.mG,T.lQ,_,rfl,D',la,_,_,rfl,cY.of h4,cY.of hM4.am,Rv (arC (XN B k m)) (cY.of h4) (cY.of hM4.am) (by rw [ao,acz,sizeLine_eq];omega) (by decide) ?_ ?_⟩
   ·intro i' x y H6 R hx hy s6 h;rw [aW,dO] at hx;obtain ⟨c1,hc1,rfl⟩:=hx;obtain ⟨c2,hc2,rfl⟩:=Gi hy;have h:=h H6 (bh.refl H6);walk_at "rd";refine ⟨.inl ?_,h⟩;unfold XN;split<;>split<;>decide
   ·intro D6 H6 hD6 s6 h6;refine ⟨⟨D6,_,_,_,_,⟨rfl,rfl,rfl,rfl,rfl⟩,?_,same_none ((s03.trans s4)) hD6⟩,s4.trans s6⟩;rw [h6,take_succ hm,alm B _ m k z3];congr 2;rw [ahn,show iV (apU m)=bV (m.kg::m.metals) from RG (m.kg::m.metals)]))
noncomputable def stepK (kg:Int) (st en ce:Int):Int:=(if (if kg<en then kg else en) - st>0 then (if kg<en then kg else en) - st else 0)*ce
noncomputable def tms (kg:Int):List (Nat×Nat)->List Int
 |[]=>[]
 |[x]=>[stepK kg x.1 kg x.2]
 |x::y::r=>stepK kg x.1 y.1 x.2::tms kg (y::r)
noncomputable def CK (kg:Int) (sl:List (Nat×Nat)) (i:Nat):Int:=((sl[i]?).map λy=>(y.1:Int)).getD kg
theorem abC(kg:Int):∀(sl:List (Nat×Nat)) (i:Nat),(tms kg sl)[i]? =(sl[i]?).map λx=>stepK kg x.1 (CK kg sl (i+1)) x.2
 |[],i=>by simp [tms]
 |[x],i=>by
  cases i with
  |zero=>simp [tms,CK]
  |succ i=>simp [tms]
 |x::y::r,i=>by
  cases i with
  |zero=>simp [tms,CK]
  |succ i=>
   have:=abC kg (y::r) i;simp only [tms,ahi] at this⊢;rw [this];rfl
theorem amG(kg:Int)(sl:List (Nat×Nat)):(tms kg sl).length=sl.length:=by
 have h1:=λi=>abC kg sl i;rcases Wr (tms kg sl).length sl.length with h | h | h
 ·have:=h1 (tms kg sl).length;rw [gY (aU _),ak h] at this;cases this
 ·exact h
 ·have:=h1 sl.length;rw [gY (l:=sl) (aU _),ak h] at this;cases this
def aoO(kg:Int)(sl:List (Nat×Nat)):Int:=(tms kg sl).sum
theorem akW(kg:Int)(a c:Nat)(e:Option Nat):stepK kg a ((e.map λy:Nat=>(y:Int)).getD kg) c=(((((e.map λy=>min kg.toNat y).getD kg.toNat) - min ((e.map λy=>min kg.toNat y).getD kg.toNat) a)*c:Nat):Int):=by
 unfold stepK;rw [Int.natCast_mul];congr 1;cases e with
 |none=>
  simp only [Ot,JV];split<;>omega
 |some y=>
  simp only [vX,jX];split<;>split<;>omega
theorem amX(kg:Int)(sl:List (Nat×Nat)):aoO kg sl/1000=(afv sl kg.toNat:Int):=(by apply aj:aa (by
 have e:tms kg sl=(sl.zipIdx.map λx=>((((sl[x.2+1]?).map λy=>min kg.toNat y.1).getD kg.toNat) - min (((sl[x.2+1]?).map λy=>min kg.toNat y.1).getD kg.toNat) x.1.1)*x.1.2).map λn:Nat=>(n:Int):=by
  apply rm;intro i;rw [abC,aW,aW,QT];cases h:sl[i]? with
  |none=>rfl
  |some x=>
   simp only [vX,adp,mX];congr 1;have:=akW kg x.1 x.2 ((sl[i+1]?).map λy=>y.1);unfold CK;simp only [adp] at this;exact this
 have sum_nat:∀l:List Nat,(l.map λn:Nat=>(n:Int)).sum=(l.sum:Int):=λl=>by
  induction l with
  |nil=>rfl
  |cons x l ih=>simp [ih]
 unfold aoO afv;rw [e,sum_nat];generalize (sl.zipIdx.map λx=>((((sl[x.2+1]?).map λy=>min kg.toNat y.1).getD kg.toNat) - min (((sl[x.2+1]?).map λy=>min kg.toNat y.1).getD kg.toNat) x.1.1)*x.1.2).sum=n;omega))
theorem ah9:∀sl:List (Nat×Nat),ev (sl.flatMap λx=>[x.1,x.2])=sl.map (·.1)/\ev ((sl.flatMap λx=>[x.1,x.2]).drop 1)=sl.map (·.2)
 |[]=>⟨rfl,rfl⟩
 |[x]=>⟨rfl,rfl⟩
 |x::y::r=>by
  obtain ⟨h1,h2⟩:=ah9 (y::r);constructor
  ·simp only [gw,ZM,mO,ev,bu] at h1⊢;rw [h1]
  ·simp only [gw,ZM,mO,List.drop_succ_cons,oG,ev,bu] at h2⊢;rw [h2]
theorem aox{K:az}{i j k:Nat}{σ:St}{H:Hp}{t:Addr}{x y z:V}{Q:St->Hp->Prop}(h:Q (((σ.set i (some x)).set j (some y)).set k (some z)) (upd H t (.tup [x,y,z]))):
  ajG K 3 (Pg (wz i) (Pg (wz j) (Pg (wz k) al7))) (.ref t) σ (upd H t (.tup [x,y,z])) Q:=⟨t,[x,y,z],rfl,Ol.of aD,rfl,x,[y,z],rfl,y,[z],rfl,z,[],rfl,rfl,h⟩
inductive ZZ(K:az)(vs:List V)(H:Hp)(Q:VK)(E:XK):Prop
 |mk (a:Addr) (kg:Int) (sl:List (Nat×Nat)) (_:vs=[.int kg,.ref a]) (_:H a=some (.lst (bV (sl.flatMap λx=>[x.1,x.2])))) (_:sl.length<=6) (_:kg<2^64) (_:∀H',bh H H'->Q (.int (aoO kg sl/1000)) H')
theorem aaj(T:Txt P w K mg A):fU P w K mg base mU 1 A.Hz A.rQ zG (ZZ K):=(by apply aj:aa (by
 refine T.zg.ok kY (λvs H Q E h=>?_) (λcdv A' outer s H vs Q E hr h=>?_)
 ·obtain ⟨a,kg,sl,rfl,_⟩:=h;rfl
 ·obtain ⟨a,kg,sl,rfl,ha,hl,hc,q⟩:=h;refine ⟨_,(bw (lL 2 kY.nd (M5 (pv 1) (gr bG) pM))),?_⟩;obtain ⟨v1,v2⟩:=ah9 sl;have t1:Ra (bV (sl.flatMap λx=>[x.1,x.2])) (some 0) none 2=bV (sl.map (·.1)):=by
   have:=Q9 (bV (sl.flatMap λx=>[x.1,x.2])) 0 (by decide);rw [oG] at this;rw [<-v1];exact this.trans (YQ _ _)
  have t2:Ra (bV (sl.flatMap λx=>[x.1,x.2])) (some 1) none 2=bV (sl.map (·.2)):=by
   have:=Q9 (bV (sl.flatMap λx=>[x.1,x.2])) 1 (by decide);rw [<-v2];refine this.trans ?_;rw [show (bV (sl.flatMap λx=>[x.1,x.2])).drop 1=bV ((sl.flatMap λx=>[x.1,x.2]).drop 1) from Af.symm];exact YQ _ _
  walk_at "rd";refine ⟨_,cY.of ha,λp hp=>?_⟩;rw [t1];generalize ep:upd H p _=H1;obtain ⟨s1,_,_,h1⟩:=iz (bh.refl H) hp ep;refine cz (bw (lL 3 kY.nd (fC qg (jF lF (pv 2) (gr bG) pM) (cZ (aq (pv 0) aG))))) ?_;walk_at "rd";refine ⟨_,cY.of h1,λp1 hp1=>⟨by rw [sizeLine_eq];decide,?_⟩⟩;have ec:ym (bV (sl.map (·.1))) (some 1) none=(bV (sl.map (·.1))).drop 1:=Uj (bV (sl.map (·.1))) 1;rw [ec];generalize e1:upd H1 p1 _=H2;obtain ⟨s2,s12,_,h2⟩:=iz s1 hp1 e1;intro p2 hp2;generalize e2:upd H2 p2 _=H3;obtain ⟨s3,s23,_,h3⟩:=iz s2 hp2 e2;refine ⟨_,s23 _ _ h2,_,h3,by rw [sizeLine_eq];simp only [cA,ao,aH,bF];omega,λp3 hp3=>?_⟩;generalize e3:upd H3 p3 _=H4;obtain ⟨s4,s34,_,h4⟩:=iz s3 hp3 e3;have hp4:=s34 _ _ (s23 _ _ (s12 _ _ h1));have ha4:=s4 _ _ ha;refine cz (aL (lL 4 kY.nd bG)
   (bw (Hi ji rfl (am3 rfl T.aa1 (aq (pv 2) (aq (pv 3) (aq (M5 (pv 1) (gr bG) pM) aG)))) (uW (K:=K) (n:=3) rfl rfl (g8 (eZ (i:=5) kY.nd rfl (dZ rfl)) (g8 (eZ (i:=6) kY.nd rfl (dZ rfl)) (g8 (eZ (i:=7) kY.nd rfl (dZ rfl)) uV)))) (aK (Xo kY.nd rfl (dZ rfl) (fC XJ (cH (abi rfl) rfl T.ahS boot_max (aq bG (aq (fC DY (cH (ajW rfl) rfl T.aq0 boot_min (aq (pv 6) (aq (pv 0) aG))) (pv 5)) aG))) (pv 7)) Yt (i:=4)))))) ?_;walk_at "rd"
  refine ⟨1,rfl,a,_,rfl,cY.of ha4,λp5 hp5=>?_⟩;rw [show Ra (bV (sl.flatMap λx=>[x.1,x.2])) (some 1) none 2=bV (sl.map (·.2)) from t2];generalize e5:upd H4 p5 _=H5;obtain ⟨s5,Xi,_,h5⟩:=iz s4 hp5 e5;have hl1:(bV (sl.map (·.1))).length=sl.length:=by simp
  refine ⟨p,p3,p5,_,_,_,rfl,cY.of (Xi _ _ hp4),cY.of (Xi _ _ h4),cY.of h5,Gd sl.length (λi σ H'=>(∃w1 w2 w3,σ=[some (V.int kg),some (V.ref a),some (V.ref p),some (V.ref p3),some (V.int ((tms kg sl).take i).sum),w1,w2,w3])/\bh H5 H')
   ⟨⟨_,_,_,rfl⟩,bh.refl H5⟩ ?_ ?_⟩
  ·rintro σ H6 ⟨⟨w1,w2,w3,rfl⟩,s6⟩;refine ⟨⟨_,cY.of (s6 _ _ (Xi _ _ hp4)),by rw [hl1];exact aU _⟩,?_⟩;rw [dR (by rw [amG];exact aU _)];refine cz (aK (bB (fC aeg (pv 4) (bH T.Oh)))) ?_;walk_at "rd";exact ⟨⟨by decide,by decide⟩,q H6 (s5.trans s6)⟩
  ·rintro i σ H6 hi ⟨⟨w1,w2,w3,rfl⟩,s6⟩;have x1:(bV (sl.map (·.1)))[i]? =some (V.int (sl[i].1:Int)):=by simp [ak hi]
   have x3:(bV (sl.map (·.2)))[i]? =some (V.int (sl[i].2:Int)):=by simp [ak hi]
   have x2:((bV (sl.map (·.1))).drop 1++[V.int kg])[i]? =some (V.int (CK kg sl (i+1))):=by
    unfold CK;by_cases hlt:i+1<sl.length
    ·rw [eG (by simp;omega),v8,Wt 1 i];simp [ak hlt]
    ·have:i=((bV (sl.map (·.1))).drop 1).length:=by simp;omega
     rw [fB (by omega),<-this,pQ,gY (l:=sl) (by omega)];rfl
   refine ⟨⟨_,_,_,_,_,_,cY.of (s6 _ _ (Xi _ _ hp4)),cY.of (s6 _ _ (Xi _ _ h4)),cY.of (s6 _ _ h5),x1,x2,x3⟩,?_⟩;rintro x H7 ⟨t,y1,y2,y3,rfl,ht,rfl,f1,f2,f3⟩;have f1:=f1 _ (cY.of (s6 _ _ (Xi _ _ hp4)));have f2:=f2 _ (cY.of (s6 _ _ (Xi _ _ h4)));have f3:=f3 _ (cY.of (s6 _ _ h5));rw [x1] at f1;rw [x2] at f2;rw [x3] at f3;obtain rfl:=aB f1;obtain rfl:=aB f2;obtain rfl:=aB f3;refine aox ?_;generalize et:upd H6 t _=H7;obtain ⟨s7,_,_,_⟩:=iz s6 ht et;have ets:((tms kg sl).take (i+1)).sum=((tms kg sl).take i).sum+stepK kg sl[i].1 (CK kg sl (i+1)) sl[i].2:=by
    rw [take_succ (x:=stepK kg sl[i].1 (CK kg sl (i+1)) sl[i].2) (by rw [abC,ak hi];rfl),List.sum_append];simp
   rw [ets];unfold stepK;walk_at "rd";refine ⟨_,_,⟨rfl,rfl⟩,_,_,⟨rfl,rfl⟩,.inl ?_,rfl,s7⟩;constructor<;>(repeat' split)<;>omega))
theorem aln(B:aC)(l:List bK)(k:eU)(h:∀m∈l,m.kg<=1000000000000):(gC B l k).headD 0<=l.length*1000000000000:=(by apply aj:aa (by
 have key:∀(l:List bK) (a:Int),(∀m∈l,m.kg<=1000000000000)->(l.map λm=>XN B k m*(m.kg:Int)).foldl (λx y=>x+y) a<=a+l.length*1000000000000:=λl=>by
  induction l with
  |nil=>intro a _;simp
  |cons m l ih=>
   intro a hh;have h1:=ih (a+XN B k m*(m.kg:Int)) λx hx=>hh x (aV _ hx);have h2:=hh m bz;have h3:XN B k m*(m.kg:Int)<=1000000000000:=by
    unfold XN;split<;>split<;>omega
   simp only [bu,Ov,aH];omega
 have:=key l 0 h;unfold gC;simp only [List.headD_cons];exact Int.le_trans this (by omega)))
inductive Tq(A:uw)(vs:List V)(H:Hp)(Q:VK)(E:XK):Prop
 |mk (d dx j ta b:Addr) (N:Nat) (br:Bool) (st:cB) (L:Lay) (S0:Addr->Prop) (z:Int) (_:vs=[.ref d,.int z]) (_:H d=some (.ins A.mJ dx (JD j))) (_:gf A N H br j ta b st L S0) (_:(¬(1<=z/\z<=1000)->∀D H',H D=none->bh H H'->H' D=some (.lst (iV [-1]))->Q (.ref D) H')) (_:((1<=z/\z<=1000)->(st.books.month:Int)<z->∀D H',H D=none->bh H H'->H' D=some (.lst (iV [-7]))->Q (.ref D) H')) (_:((1<=z/\z<=1000)->¬(st.books.month:Int)<z->Q .non H))
theorem Fv(T:Txt P w K mg A):fU P w K mg base mU 1 A.yJ A.nF sZ (Tq A):=(by apply aj:aa (by
 refine T.oH.ok Tu (λvs H Q E h=>?_) (λcdv A' outer s H vs Q E hr h=>?_)
 ·obtain ⟨d,dx,j,ta,b,N,br,st,L,S0,z,rfl,_⟩:=h;rfl
 ·obtain ⟨d,dx,j,ta,b,N,br,st,L,S0,z,rfl,hd,hJ,q1,q2,q3⟩:=h;refine ⟨_,(aL (dW (kO (qd ni ni bG (pv 1) (bH T.acE))) (aK (bB (cZ (aq (bH T.iI) aG)))) b7)
   (aL (dW (bZ Kv (aO (aO (aO (pv 0) rfl) rfl) rfl) (pv 1) (cP _)) (aK (bB (cZ (aq (bH T.ajs) aG)))) b7)
   (aK (bB nY)))),?_⟩
  obtain ⟨Oi,hj⟩:=hJ.ob;obtain ⟨BV,hb⟩:=hJ.bk.bk;walk_at "rd";have nw:∀(l:List Int),(∀D H',H D=none->bh H H'->H' D=some (.lst (iV l))->Q (.ref D) H')->1<=sizeLine/\∀p,H p=none->Q (.ref p) (upd H p (.lst (iV l))):=λl k=>⟨by rw [sizeLine_eq];decide,λp hp=>k p _ hp (bh.new hp) aD⟩;by_cases z0:1<=z
  ·rw [if_pos z0];by_cases z1:z<=1000
   ·rw [if_neg (by simpa using z1)];refine ⟨_,_,_,hd,T.mH,T.cV,_,rfl,_,rfl,_,_,_,hj,T.bR,T.cI,_,rfl,_,rfl,_,_,_,hb,T.cN,T.jR,_,rfl,_,rfl,?_⟩;by_cases hm:(st.books.month:Int)<z
    ·rw [if_pos hm];exact nw _ (q2 ⟨z0,z1⟩ hm)
    ·rw [if_neg hm];exact q3 ⟨z0,z1⟩ hm
   ·rw [if_pos (by simpa using z1)];exact nw _ (q1 (by omega))
  ·rw [if_neg z0];exact nw _ (q1 (by omega))))
theorem agh(T:Txt P w K mg A):fU P w K mg base mU 3 A.qC A.oY vg (pH A (λl=>.month (l.getD 0 0)) λl=>l.length=1):=(by apply aj:aa (by
 have yO:=Fv (base:=base) T;have QG:=Vd (base:=base) T;refine T.uL.ok oM (λvs H Q E h=>?_) (λcdv A' outer s H vs Q E hr h=>?_)
 ·obtain ⟨d,a,st,S,args,rfl,_⟩:=h;rfl
 ·obtain ⟨d,a,st,S,args,rfl,hD,na,ha,hl,pre,q⟩:=h;refine ⟨_,(aL (lL 2 oM.nd (iG fP (pv 1) bG (λ_ _=>rfl)))
   (aL (lL 3 oM.nd (cJ yO (hr.mono (by decide)) rfl T.Jz T.oH.kp T.tL .nil dz (aq (pv 0) (aq (pv 2) aG))))
   (aL (dW (bZ Ro (pv 3) nY (cP _)) (aK (bB (pv 3))) b7)
   (aL (lL 4 oM.nd (cZ (aq bG aG)))
   (aL (Hi ji rfl (alb (bH T.acF)) (eZ (i:=5) oM.nd rfl (dZ rfl)) (aK (jn (rM bY fj fc nA (pv 4) (aq (cJ QG (hr.mono (by decide)) rfl T.YF T.Ar.kp T.Ii .nil dz (aq (aO (aO (pv 0) rfl) rfl) (aq (pv 2) (aq (pv 5) aG)))) aG)))))
   (aK (bB (pv 4)))))))),?_⟩
  obtain ⟨dx,j,ta,b,N,L,S0,hd,hJ,hN,hS0,sj,sta,sd,nd⟩:=hD.ex;obtain ⟨Oi,hj⟩:=hJ.ob;obtain ⟨BV,hb⟩:=hJ.bk.bk;obtain ⟨z,rfl⟩:∃z,args=[z]:=by
   match args,pre with
   |[z],_=>exact ⟨z,rfl⟩
  have q:∀(D:Addr) (H':Hp) (S':Addr->Prop),km A H' d (bC st (.month z)).1 S'->(∀x,S' x->S x\/H x=none)->(H D=none\/S D)->H' D=some (.lst (iV (bC st (.month z)).2))->¬S' D->
   (∀x o,H x=some o->¬S x->H' x=some o)->Q (.ref D) H':=q
  have out:¬(1<=z/\z<=1000)->∀(D:Addr) (H':Hp),bh H H'->H D=none->H' D=some (.lst (iV [-1]))->Q (.ref D) H':=λhh=>by
   refine eQ hD (oK ?_) q;unfold gk iu;simp only [jP,decide_eq_false_iff_not];omega
  have hra:1<=z/\z<=1000->¬(gk (.month z)=false):=λ⟨z0,z1⟩=>by
   unfold gk iu;simp [z0,z1]
  have hrl:st.books.records.length<=10000:=by
   have:=hJ.nl;have:=hD.len;omega
  walk_at "rd";refine ⟨_,cY.of ha,V.int z,fH (j:=0) rfl,d,dx,j,ta,b,N,_,st,L,S0,z,rfl,hd,hJ,λhh D H' Zz s1 h1=>⟨true,by simp,?_⟩,λhh hm D H' Zz s1 h1=>⟨true,by simp,?_⟩,λhh hm=>⟨false,by simp,?_⟩⟩
  ·rw [if_pos rfl];exact out hh D H' s1 Zz h1
  ·rw [if_pos rfl];refine eQ hD ?_ q D H' s1 Zz h1;unfold bC;rw [if_neg (hra hh)]
   try dsimp only
   rw [if_pos (by omega)]
  ·rw [if_neg (by simp)];obtain ⟨z0,z1⟩:=hh;obtain ⟨mo,rfl⟩:∃mo:Nat,z=(mo:Int):=⟨z.toNat,by omega⟩;have hst:bC st (.month (mo:Int))=(st,0::(Du.flatMap λk=>gC st.books (dN st.books mo) k)):=by
    unfold bC;rw [if_neg (hra ⟨z0,z1⟩)]
    try dsimp only
    rw [if_neg (by omega),gA]
   have k:=eQ hD hst q;refine ⟨by rw [sizeLine_eq];decide,λp hp=>?_⟩;generalize ep:upd H p _=H1;obtain ⟨s1,_,_,h1⟩:=iz (bh.refl H) hp ep;have hme:st.books.metals.length<=2:=hJ.bk.ok.me;have hK:∀H0:Hp,Ol K H0 A.Wl (Du.map λk=>V.str (eF k)):=λH0=>T.V7.sq;refine ⟨A.Wl,rfl,⟨_,hK H1⟩,Gd 5 (λi σ H'=>(∃v,σ=[some (V.ref d),some (V.ref a),some (V.int (mo:Int)),some V.non,some (V.ref p),v])/\
    H' p=some (.lst (V.int 0::iV ((Du.take i).flatMap λk=>gC st.books (dN st.books mo) k)))/\bh H H') ⟨⟨_,rfl⟩,h1,s1⟩ ?_ ?_⟩
   ·rintro σ H2 ⟨⟨v,rfl⟩,h2,s2⟩;refine ⟨⟨_,hK H2,aU _⟩,?_⟩;walk_at "rd";exact k p H2 s2 hp h2
   ·rintro i σ H2 hi ⟨⟨v,rfl⟩,h2,s2⟩;obtain ⟨kd,hkd⟩:∃kd,Du[i]? =some kd:=⟨_,ak hi⟩;have hx0:(Du.map λk=>V.str (eF k))[i]? =some (V.str (eF kd)):=by rw [aW,hkd];rfl
    refine ⟨⟨_,_,hK H2,hx0⟩,?_⟩;rintro x H3 ⟨rfl,hx⟩;have hx:=hx _ (hK H3);rw [hx0] at hx;obtain rfl:V.str (eF kd)=x:=aB hx;walk_at "rd";have hfl:((Du.take i).flatMap λk=>gC st.books (dN st.books mo) k).length<=3*i:=by
     have key:∀l:List eU,(l.flatMap λk=>gC st.books (dN st.books mo) k).length<=3*l.length:=λl=>by
      induction l with
      |nil=>simp
      |cons y l ih=>
       rw [gw,aJ,acz,aH];omega
     exact aY (key _) (by rw [bO];omega)
    refine ⟨.inl ⟨rfl,_,cY.of h2⟩,_,_,_,s2 _ _ hd,T.mH,T.cV,_,rfl,_,rfl,_,_,_,s2 _ _ hj,T.bR,T.cI,_,rfl,b,N,_,_,L,S0,mo,kd,rfl,hJ.bk.same s2,hrl,λD H4 Zz s4 h4=>?_⟩;refine ⟨D,rfl,_,s4 _ _ h2,_,h4,?_,?_,(s2.trans s4).put hp⟩
    ·rw [sizeLine_eq];simp only [aH,ao,acz];omega
    ·rw [aD,take_succ hkd,oF];simp))
theorem acu(T:Txt P w K mg A):fU P w K mg base mU 3 A.nO A.mq qQ (pH A (λl=>.royalty (l.getD 0 0)) λl=>l.length=1):=(by apply aj:aa (by
 have yO:=Fv (base:=base) T;have QG:=Vd (base:=base) T;have ade:=aaj (base:=base) T;refine T.qM.ok lY (λvs H Q E h=>?_) (λcdv A' outer s H vs Q E hr h=>?_)
 ·obtain ⟨d,a,st,S,args,rfl,_⟩:=h;rfl
 ·obtain ⟨d,a,st,S,args,rfl,hD,na,ha,hl,pre,q⟩:=h;refine ⟨_,(aL (lL 2 lY.nd (iG fP (pv 1) bG (λ_ _=>rfl)))
   (aL (lL 3 lY.nd (cJ yO (hr.mono (by decide)) rfl T.Jz T.oH.kp T.tL .nil dz (aq (pv 0) (aq (pv 2) aG))))
   (aL (dW (bZ Ro (pv 3) nY (cP _)) (aK (bB (pv 3))) b7)
   (aL (lL 4 lY.nd (aO (aO (pv 0) rfl) rfl))
   (aL (lL 5 lY.nd (iG fP (cJ QG (hr.mono (by decide)) rfl T.YF T.Ar.kp T.Ii .nil dz (aq (pv 4) (aq (pv 2) (aq pI aG)))) bG (λ_ _=>rfl)))
   (aK (bB (cZ (aq bG (aq (pv 5) (aq (cJ ade (hr.mono (by decide)) rfl T.acI T.zg.kp T.Ih .nil dz (aq (pv 5) (aq (aO (pv 4) rfl) aG))) aG))))))))))),?_⟩
  obtain ⟨dx,j,ta,b,N,L,S0,hd,hJ,hN,hS0,sj,sta,sd,nd⟩:=hD.ex;obtain ⟨Oi,hj⟩:=hJ.ob;obtain ⟨BV,hb⟩:=hJ.bk.bk;obtain ⟨z,rfl⟩:∃z,args=[z]:=by
   match args,pre with
   |[z],_=>exact ⟨z,rfl⟩
  have q:∀(D:Addr) (H':Hp) (S':Addr->Prop),km A H' d (bC st (.royalty z)).1 S'->(∀x,S' x->S x\/H x=none)->(H D=none\/S D)->H' D=some (.lst (iV (bC st (.royalty z)).2))->¬S' D->
   (∀x o,H x=some o->¬S x->H' x=some o)->Q (.ref D) H':=q
  have out:¬(1<=z/\z<=1000)->∀(D:Addr) (H':Hp),bh H H'->H D=none->H' D=some (.lst (iV [-1]))->Q (.ref D) H':=λhh=>by
   refine eQ hD (oK ?_) q;unfold gk iu;simp only [jP,decide_eq_false_iff_not];omega
  have hra:1<=z/\z<=1000->¬(gk (.royalty z)=false):=λ⟨z0,z1⟩=>by
   unfold gk iu;simp [z0,z1]
  have hrl:st.books.records.length<=10000:=by
   have:=hJ.nl;have:=hD.len;omega
  walk_at "rd";refine ⟨_,cY.of ha,V.int z,fH (j:=0) rfl,d,dx,j,ta,b,N,_,st,L,S0,z,rfl,hd,hJ,λhh D H' Zz s1 h1=>⟨true,by simp,?_⟩,λhh hm D H' Zz s1 h1=>⟨true,by simp,?_⟩,λhh hm=>⟨false,by simp,?_⟩⟩
  ·rw [if_pos rfl];exact out hh D H' s1 Zz h1
  ·rw [if_pos rfl];refine eQ hD ?_ q D H' s1 Zz h1;unfold bC;rw [if_neg (hra hh)]
   try dsimp only
   rw [if_pos (by omega)]
  ·rw [if_neg (by simp)];obtain ⟨z0,z1⟩:=hh;obtain ⟨mo,rfl⟩:∃mo:Nat,z=(mo:Int):=⟨z.toNat,by omega⟩;have hst:bC st (.royalty (mo:Int))=(st,[0,(gC st.books (dN st.books mo) .sold).headD 0,(afv st.books.scale ((gC st.books (dN st.books mo) .sold).headD 0).toNat:Int)]):=by
    unfold bC;rw [if_neg (hra ⟨z0,z1⟩)]
    try dsimp only
    rw [if_neg (by omega),gA]
   have k:=eQ hD hst q;refine ⟨_,_,_,hd,T.mH,T.cV,_,rfl,_,rfl,_,_,_,hj,T.bR,T.cI,_,rfl,b,N,_,_,L,S0,mo,.sold,rfl,hJ.bk,hrl,λD H1 Zz s1 h1=>?_⟩;have hat:atI (iV (gC st.books (dN st.books mo) .sold)) 0=some (V.int ((gC st.books (dN st.books mo) .sold).headD 0)):=fH (j:=0) rfl;have hkg:(gC st.books (dN st.books mo) .sold).headD 0<2^64:=by
    have hml:(dN st.books mo).length<=10000:=by
     unfold dN;exact aY (afA _ _) (aY (yR _ _) hrl)
    have:=aln st.books (dN st.books mo) .sold λm hm=>by
     unfold dN at hm;obtain ⟨r,hr1,hr2⟩:=Fb.mp hm;obtain ⟨_,_,_,_,z5,_⟩:=hJ.bk.ok.mv r (vY.mp hr1).1 m hr2;exact z5
    omega
   refine ⟨D,rfl,_,cY.of h1,_,hat,b,rfl,_,_,_,s1 _ _ hb,T.cN,T.vA,_,rfl,L.sc,_,st.books.scale,rfl,s1 _ _ hJ.bk.sc,hJ.bk.ok.sc,hkg,λH2 s2=>⟨by rw [sizeLine_eq];decide,λp hp=>?_⟩⟩;refine k p _ ((s1.trans s2).X5 hp) (same_none (s1.trans s2) hp) ?_;rw [aD,amX];rfl))
inductive Tp(A:uw)(vs:List V)(H:Hp)(Q:VK)(E:XK):Prop
 |mk (ma la b:Addr) (N:Nat) (B:aC) (es:List Nat) (L:Lay) (S:Addr->Prop) (m:bK) (_:vs=[.ref ma]) (_:bJ A N H b B es L S) (_:qI A H L ma la m) (_:m.from_<B.places.length) (_:m.to_<B.places.length) (_:∀D H',H D=none->bh H H'->H' D=some (.lst (bV [m.from_+1,m.to_+1]))->Q (.ref D) H')
theorem T3(T:Txt P w K mg A):fU P w K mg base mU 1 A.qG A.jH lZ (Tp A):=(by apply aj:aa (by
 refine T.pZ.ok JK (λvs H Q E h=>?_) (λcdv A' outer s H vs Q E hr h=>?_)
 ·obtain ⟨ma,la,b,N,B,es,L,S,m,rfl,_⟩:=h;rfl
 ·obtain ⟨ma,la,b,N,B,es,L,S,m,rfl,hB,hM,g1,g2,q⟩:=h;refine ⟨_,(aK (bB (cZ (aq (aO (aO (pv 0) rfl) rfl) (aq (aO (aO (pv 0) rfl) rfl) aG))))),?_⟩;obtain ⟨dxm,sa,tg,hM1,hM2,hM3⟩:=hM.ob;obtain ⟨⟨pa,pla⟩,hps⟩:∃y,L.ps[m.from_]? =some y:=⟨_,ak (by rw [hB.yE];exact g1)⟩;obtain ⟨⟨pb,plb⟩,hpt⟩:∃y,L.ps[m.to_]? =some y:=⟨_,ak (by rw [hB.yE];exact g2)⟩;rw [hps] at hM2;rw [hpt] at hM3;obtain rfl:pa=sa:=aB hM2;obtain rfl:pb=tg:=aB hM3;obtain ⟨dx1,hP1⟩:=(hB.pat m.from_ _ pa pla (ak g1) hps).ob;obtain ⟨dx2,hP2⟩:=(hB.pat m.to_ _ pb plb (ak g2) hpt).ob;walk_at "rd";refine ⟨_,_,_,hM1,T.mG,T.lA,_,rfl,pa,rfl,_,_,_,hP1,T.d7,T.fO,_,rfl,_,_,_,hM1,T.mG,T.lu,_,rfl,pb,rfl,_,_,_,hP2,T.d7,T.fO,_,rfl,by rw [sizeLine_eq];decide,λp hp=>q p _ hp (bh.new hp) ?_⟩;rw [aD];rfl))
noncomputable def yp (B:aC) (i n:Nat):List Nat:=match (B.records[n]?).bind λr=>r.move with
 |none=>[]
 |some m=>if m.from_=i\/m.to_=i then [n+1,if m.to_=i then 1 else 0,m.kg] else []
theorem aaS(B:aC)(i:Nat):∀n,((iR n).flatMap (yp B i)).length<=3*n
 |0=>by simp
 |n+1=>by
  have:=aaS B i n;rw [Cv,oF,aJ];have h2:((List.flatMap (yp B i) [n]).length)<=3:=by
   simp only [gw,List.flatMap_nil,iw];unfold yp;split
   ·simp
   ·split<;>simp
  omega
theorem agf(T:Txt P w K mg A):fU P w K mg base mU 3 A.qy A.oW vd (pH A (λl=>.trail l) λl=>l.length<=3000):=(by apply aj:aa (by
 have gP:=Fx (base:=base) T;have Es:=Kw (base:=base) T;have Mr:=T3 (base:=base) T;have vV:=Ft (base:=base) T;refine T.uJ.ok lO (λvs H Q E h=>?_) (λcdv A' outer s H vs Q E hr h=>?_)
 ·obtain ⟨d,a,st,S,args,rfl,_⟩:=h;rfl
 ·obtain ⟨d,a,st,S,args,rfl,hD,na,ha,hl,pre,q⟩:=h;refine ⟨_,(bw (dW (kO (lN (cJ gP (hr.mono (by decide)) rfl T.mj T.iB.kp T.jr .nil dz (aq (pv 1) aG)))) (aK (bB (cZ (aq (bH T.iI) aG)))) b7)),?_⟩;obtain ⟨dx,j,ta,b,N,L,S0,hd,hJ,hN,hS0,sj,sta,sd,nd⟩:=hD.ex;obtain ⟨Oi,hj⟩:=hJ.ob;obtain ⟨BV,hb⟩:=hJ.bk.bk;walk_at "rd";refine ⟨a,args,rfl,cY.of ha,by rw [sizeLine_eq];omega,λH1 s1=>⟨_,rfl,?_⟩⟩;cases hby:gK args with
  |false=>
   rw [if_pos rfl];exact jh (eQ hD (oK (c:=.trail args) hby) q) s1
  |true=>
   rw [if_neg (by simp)];obtain ⟨e1,e2⟩:=K6 hby;have hst:bC st (.trail args)=match dM st.books (dI args) with | none=>(st,[-6]) | some i=>(st,qJ ((iR st.books.records.length).flatMap (yp st.books i))):=by
    unfold bC;rw [if_neg (by show ¬gK args=false;rw [hby];simp)]
    try dsimp only
    cases dM st.books (dI args)<;>rfl
   refine cz (bw (lL 2 lO.nd (cJ Es (hr.mono (by decide)) rfl T.Pa T.rH.kp T.xH .nil dz (aq (pv 0) (aq (pv 1) aG))))) ?_;walk_at "rd";refine ⟨d,a,dx,j,ta,b,N,_,st,L,S0,dI args,rfl,s1 _ _ hd,hJ.same s1,cY.of (by rw [<-e1];exact s1 _ _ ha),by rw [e2];exact pre,λH2 s2=>?_⟩;have s02:=s1.trans s2;rcases hJ.bk.ajB (dI args) with ⟨g1,g2⟩ | ⟨pi,pl,pa,la,g1,g2,g3,g4,g5⟩
   ·rw [g2];refine cz (bw (dW (bZ yG (pv 2) nY (cP _)) (aK (bB (cZ (aq (bH T.yI) aG)))) b7)) ?_;walk_at "rd";rw [g1] at hst;exact jh (eQ hD hst q) s02
   ·rw [g5];refine cz (bw (dW (bZ yG (pv 2) nY (cP _)) (aK (bB (cZ (aq (bH T.yI) aG)))) b7)) ?_;walk_at "rd";rw [g1] at hst;have k:=eQ hD hst q;have hP:=hJ.bk.pat pi pl pa la g2 g4;obtain ⟨dxp,hp0⟩:=hP.ob;refine cz (bw (lL 3 lO.nd (cZ (aq bG aG)))) ?_;walk_at "rd";refine ⟨by rw [sizeLine_eq];decide,λp hp=>?_⟩;generalize ep:upd H2 p _=H3;obtain ⟨s3,_,hp',hp1⟩:=iz s02 hp ep;have hrl:(L.rs.map V.ref).length=st.books.records.length:=by rw [ao,hJ.bk.Cr]
    have hrn:=hJ.nl;have hjl:=hD.len;refine cz (bw (Hi ji rfl (XD rfl T.KC (aq (aO (aO (aO (pv 0) rfl) rfl) rfl) aG)) (uW (K:=K) (n:=2) rfl rfl (g8 (eZ (i:=4) lO.nd rfl (dZ rfl)) (g8 (eZ (i:=5) lO.nd rfl (dZ rfl)) uV))) (aK (dW (PW.pt (pw_and (bZ Ro (aO (pv 5) rfl) nY (cP _)) (pw_and1 (bZ Ni (aO (pv 2) rfl) (hld (Fo (aO (pv 5) rfl) T.mG T.JM Mr (hr.mono (by decide)) T.qH .nil dz)) rfl)))) (aL (lL 6 lO.nd (nZ oN (aO (aO (aO (pv 5) rfl) rfl) rfl) (aO (pv 2) rfl) (cP _)))
   (aK (jn (rM bY fj fc nA (pv 3) (aq (cZ (aq (pv 4) (aq (hld (cJ vV (hr.mono (by decide)) rfl T.Nm T.zf.kp T.Dj .nil dz (aq (pv 6) aG))) (aq (iG fP (aO (aO (pv 5) rfl) rfl) bG (λ_ _=>rfl)) aG)))) aG))))) b7)))) ?_;walk_at "rd"
    refine ⟨d,rfl,_,_,_,s3 _ _ hd,T.mH,T.cV,_,rfl,j,rfl,_,_,_,s3 _ _ hj,T.bR,T.cI,_,rfl,b,rfl,_,_,_,s3 _ _ hb,T.cN,T.fD,_,rfl,L.re,_,rfl,cY.of (s3 _ _ hJ.bk.re),
     Gd st.books.records.length (λi σ H'=>(∃v1 v2 v3,σ=[some (.ref d),some (.ref a),some (.ref pa),some (.ref p),v1,v2,v3])/\H' p=some (.lst (V.int 0::bV ((iR i).flatMap (yp st.books pi))))/\bh H H') ⟨⟨_,_,_,rfl⟩,hp1,s3⟩ ?_ ?_⟩
    ·rintro σ H4 ⟨⟨v1,v2,v3,rfl⟩,h4,s4⟩;refine ⟨⟨_,cY.of (s4 _ _ hJ.bk.re),by rw [hrl];exact aU _⟩,?_⟩;refine cz (aK (bB (pv 3))) ?_;walk_at "rd";exact k p H4 s4 hp' (by rw [h4,RD])
    ·rintro i σ H4 hi ⟨⟨v1,v2,v3,rfl⟩,h4,s4⟩;obtain ⟨r,hr0⟩:∃r,st.books.records[i]? =some r:=⟨_,ak hi⟩;obtain ⟨ra,RK⟩:∃ra,L.rs[i]? =some ra:=⟨_,ak (by rw [hJ.bk.Cr];exact hi)⟩;obtain ⟨e0,he0⟩:∃e0,st.ends[i]? =some e0:=⟨_,ak (by rw [hJ.bk.esl];exact hi)⟩;obtain ⟨dxr,u,v,f1,f2,f3⟩:=hJ.bk.rat _ r ra e0 hr0 RK he0;have hx0:(L.rs.map V.ref)[i]? =some (.ref ra):=by rw [aW,RK];rfl
     refine ⟨⟨_,_,cY.of (s4 _ _ hJ.bk.re),hx0⟩,?_⟩;rintro x H5 ⟨t,y,rfl,ht,rfl,hy⟩;have hy:=hy _ (cY.of (s4 _ _ hJ.bk.re));rw [hx0] at hy;obtain rfl:V.ref ra=y:=aB hy;refine ack ?_;generalize et:upd H4 t _=H5;obtain ⟨s5,Xi,_,_⟩:=iz s4 ht et;have hp5:=Xi _ _ h4;have etr:(iR (i+1)).flatMap (yp st.books pi)=(iR i).flatMap (yp st.books pi)++yp st.books pi i:=by rw [Cv,oF];simp
     have htl:=aaS st.books pi i;rw [etr];walk_at "rd";refine ⟨_,_,_,s5 _ _ f1,T.dg,T.d9,_,rfl,!decide (v=V.non),by rw [j8],?_⟩;cases hm:r.move with
     |none=>
      rw [hm] at f2;have f2:v= .non:=f2;rw [decide_eq_true f2,if_neg (by simp)];have en:yp st.books pi i=[]:=by unfold yp;rw [hr0];simp [hm]
      rw [en,iw];exact ⟨hp5,s5⟩
     |some m=>
      rw [hm] at f2;obtain ⟨ma,mla,hv,hM,_⟩:=f2;obtain ⟨z1,z2,z3,z4,z5,z6⟩:=hJ.bk.ok.mv r (aM hr0) m hm;rw [decide_eq_false (by rw [hv];simp),if_pos (by simp)];have en:yp st.books pi i=if m.from_=pi\/m.to_=pi then [i+1,if m.to_=pi then 1 else 0,m.kg] else []:=by unfold yp;rw [hr0];simp [hm]
      rw [en];have hM5:qI A H5 L ma mla m:=hM.keep (λo e=>s5 _ _ e) λo e=>s5 _ _ e;obtain ⟨dxm,sa,tg,hM1,hM2,hM3⟩:=hM5.ob;obtain ⟨⟨pb,plb⟩,hpt⟩:∃y,L.ps[m.to_]? =some y:=⟨_,ak (by rw [hJ.bk.yE];exact z2)⟩;rw [hpt] at hM3;obtain rfl:pb=tg:=aB hM3;obtain ⟨dx2,hP2⟩:=(hJ.bk.pat m.to_ _ pb plb (ak z2) hpt).ob;refine ⟨_,_,_,s5 _ _ hp0,T.d7,T.fO,_,rfl,_,_,_,s5 _ _ f1,T.dg,T.d9,_,rfl,ma,hv,_,_,hM1,rfl,ma,mla,b,N,st.books,st.ends,L,S0,m,by rw [hv],hJ.bk.same s5,hM5,z1,z2,λD6 H6 hD6 s6 h6=>?_⟩;walk_at "rd";refine ⟨_,.inl (cY.of h6),rfl,rfl,?_⟩;have s06:=s5.trans s6;have hp6:=s6 _ _ hp5;have hin:inV (V.int ((pi+1:Nat):Int)) (bV [m.from_+1,m.to_+1])=decide (m.from_=pi\/m.to_=pi):=by
       have c1:(((m.from_+1:Nat):Int)=((pi+1:Nat):Int))↔m.from_=pi:=by omega
       have c2:(((m.to_+1:Nat):Int)=((pi+1:Nat):Int))↔m.to_=pi:=by omega
       have c3:(((pi+1:Nat):Int)=((m.from_+1:Nat):Int))↔m.from_=pi:=by omega
       have c4:(((pi+1:Nat):Int)=((m.to_+1:Nat):Int))↔m.to_=pi:=by omega
       show (eqV (V.int ((m.from_+1:Nat):Int)) (V.int ((pi+1:Nat):Int)) || (eqV (V.int ((m.to_+1:Nat):Int)) (V.int ((pi+1:Nat):Int)) || false))=_;by_cases q1:m.from_=pi<;>by_cases q2:m.to_=pi<;>simp [eqV,q1,q2]<;>omega
      rw [hin];by_cases hor:m.from_=pi\/m.to_=pi
      ·rw [decide_eq_true hor,if_pos rfl,if_pos hor];refine ⟨_,_,_,s06 _ _ f1,T.dg,T.d9,_,rfl,ma,hv,_,_,_,s6 _ _ hM1,T.mG,T.lu,_,rfl,pb,rfl,_,_,_,s06 _ _ hP2,T.d7,T.fO,_,rfl,_,_,_,s06 _ _ hp0,T.d7,T.fO,_,rfl,rfl,.inl ⟨rfl,_,cY.of hp6⟩,_,rfl,?_⟩;walk_at "rd";refine ⟨_,_,_,s06 _ _ f1,T.dg,T.d9,_,rfl,ma,hv,_,_,_,s6 _ _ hM1,T.mG,T.lQ,_,rfl,mla,rfl,_,cY.of (s6 _ _ hM5.am),V.int (m.kg:Int),fH (j:=0) rfl,by rw [sizeLine_eq];decide,λp7 hp7=>?_⟩;generalize e7:upd H6 p7 _=H7;obtain ⟨s7,s67,_,h7⟩:=iz s06 hp7 e7;refine ⟨_,s67 _ _ hp6,_,h7,?_,?_,s7.put hp'⟩
       ·rw [sizeLine_eq];simp only [aH,ao,bF];omega
       ·rw [aD];by_cases q2:m.to_=pi
        ·simp [q2]
        ·have:¬((m.to_+1:Nat):Int)=((pi+1:Nat):Int):=by omega
         rw [if_neg this,if_neg q2];simp
      ·rw [decide_eq_false hor,if_neg (by simp),if_neg hor,iw];exact ⟨hp6,s06⟩))
noncomputable def dB (l:List Nat):PyData:=.list (l.map λn:Nat=>lX (n:Int))
noncomputable def apL (i:Nat) (p:dw):PyData:=.list [.str (tx p.name),.int ((i+1:Nat):Int),.str (eF p.kind),.bool p.opened,dB (p.kg::p.metals)]
noncomputable def aij:Option bK->PyData
 |none=>.list []
 |some m=>.list [.int ((m.from_+1:Nat):Int),.int ((m.to_+1:Nat):Int),dB (m.kg::m.metals)]
noncomputable def auF (e:Nat) (r:jw):PyData:=.list [.int (e:Int),.int (r.month:Int),.str (Vy r.code r.user),.int (r.code:Int),.bool r.back,aij r.move]
noncomputable def arN (u:dG):PyData:=.tuple [.str (tx u.name),.int (u.rank:Int)]
noncomputable def acT (B:aC) (es:List Nat):PyData:=.list [.list (B.users.map arN),.list (B.metals.map λm=>.str (tx m)),.list (B.places.zipIdx.map λx=>apL x.2 x.1),.int (B.month:Int),dB (B.scale.flatMap λx=>[x.1,x.2]),
 .list ((es.zip B.records).map λx=>auF x.1 x.2)]
noncomputable def Ui (st:cB):PyData:=.list [dB st.journal,.int ((st.journal.length - st.pending.length:Nat):Int),.bool st.broken,acT st.books st.ends]
theorem alB{J:It}{g:TG}{te:TE}{vs:List Nat}{σ:St}{H1:Hp}{Q:Addr->Hp->Prop}(n:Nat)(hn:n<=sizeLine)(F:Addr->Nat->V->Hp->Prop)(mono:∀D k y H H',F D k y H->(∀a o,a≠D->H a=some o->H' a=some o)->F D k y H')(step:∀(D:Addr) (i:Nat) (H:Hp) (R:VK),H1 D=none->i<n->bh H1 H->H D≠none->J.go i H/\((∀y H4,bh H H4->F D i y H4->R y H4)->∀x H',J.yld i H x H'->g x (wipe σ vs) H' λσ2 H2=>wipe σ2 vs=wipe σ vs/\te σ2 H2 R))(stop:∀H,bh H1 H->J.stop n H)(hQ:∀D H ys,H1 D=none->bh H1 H->H D=some (.lst ys)->ys.length=n->(∀k y,ys[k]? =some y->F D k y H)->Q D H):
  ∀D,H1 D=none->∃W:Nat->Nat->Hp->Prop,(∃m,W 0 m (upd H1 D (.lst [])))/\∀i m H,W i m H->
   (J.stop i H/\Q D H)\/(J.go i H/\∃Nx:Hp->Prop,(∀H',Nx H'->∃m',m'<m/\W (i+1) m' H')/\∀x H',J.yld i H x H'->g x (wipe σ vs) H' λσ2 H2=>wipe σ2 vs=wipe σ vs/\W3 σ2 H2 λb H3=>
    if b=true then te σ2 H3 λy H4=>∃acc,H4 D=some (.lst acc)/\acc.length<sizeLine/\Nx (upd H4 D (.lst (acc++[y]))) else Nx H3):=(by apply aj:aa (by
 intro D hD;refine ⟨λi m H=>m=n - i/\i<=n/\bh H1 H/\∃ys,H D=some (.lst ys)/\ys.length=i/\∀k y,ys[k]? =some y->F D k y H,⟨_,rfl,eX _,bh.new hD,[],aD,rfl,λk y h=>by simp at h⟩,?_⟩;rintro i m H ⟨rfl,hi,s1,ys,hy,hyl,hf⟩;by_cases hlt:i<n
 ·refine .inr ⟨(step D i H (λ_ _=>True) hD hlt s1 (by rw [hy];simp)).1,λH'=>bh H1 H'/\∃ys,H' D=some (.lst ys)/\ys.length=i+1/\∀k y,ys[k]? =some y->F D k y H',λH' h=>⟨n - (i+1),by omega,rfl,hlt,h⟩,?_⟩;refine (step D i H _ hD hlt s1 (by rw [hy];simp)).2 λy H4 s4 f4=>⟨ys,s4 _ _ hy,by omega,((s1.trans s4).put hD),ys++[y],aD,by simp [hyl],λk z hz=>?_⟩;have keep:∀a o,a≠D->H4 a=some o->(upd H4 D (.lst (ys++[y]))) a=some o:=λa o n h=>by rw [aF n];exact h
  by_cases hk:k<ys.length
  ·rw [eG hk] at hz;exact mono D k z H4 _ (mono D k z H H4 (hf k z hz) λa o _ h=>s4 a o h) keep
  ·have hk2:k=i:=by
    have:=(aQ.mp hz).1;simp at this;omega
   subst hk2;rw [<-hyl,fB (aU _),pQ] at hz;obtain rfl:y=z:=aB hz;exact mono D k y H4 _ f4 keep
 ·obtain rfl:i=n:=by omega
  exact .inl ⟨stop H s1,hQ D H ys hD s1 hy hyl hf⟩))
theorem Gg{H:Hp}:∀(xs:List V) (ds:List PyData),xs.length=ds.length->(∀(i:Nat) (x:V) (d:PyData),xs[i]? =some x->ds[i]? =some d->Dp K H x d)->Ms K H xs ds
 |[],[],_,_=>.nil
 |[],_::_,h,_=>by simp at h
 |_::_,[],h,_=>by simp at h
 |x::xs,d::ds,h,k=>.cons (k 0 x d rfl rfl) (Gg xs ds (by simpa using h) λi x d h1 h2=>k (i+1) x d h1 h2)
theorem RV{H:Hp}{a:Addr}{l:List Nat}(h:cY K H a (bV l)):Dp K H (.ref a) (dB l):=by
 refine .lst h (Gg _ _ (by simp) λi x d h1 h2=>?_);rw [aW,dO] at h1 h2;obtain ⟨n,hn,rfl⟩:=h1;obtain ⟨n',hn',rfl⟩:=h2;rw [hn] at hn';obtain rfl:=aB hn';exact .int _
mutual
theorem acR{H H':Hp}(s:bh H H'):∀(d:PyData) (v:V),Dp K H v d->Dp K H' v d
 |.none,_,h=>by cases h;constructor
 |.bool _,_,h=>by cases h;constructor
 |.int _,_,h=>by cases h;constructor
 |.str _,_,h=>by cases h;constructor
 |.list ds,_,h=>by
  cases h with
  |lst h1 h2=>exact .lst (s.seq h1) (YW s ds _ h2)
 |.tuple ds,_,h=>by
  cases h with
  |tup h1 h2=>exact .tup (s.tup h1) (YW s ds _ h2)
 |.dict _,_,h=>by cases h
theorem YW{H H':Hp}(s:bh H H'):∀(ds:List PyData) (vs:List V),Ms K H vs ds->Ms K H' vs ds
 |[],_,h=>by cases h;exact .nil
 |d::ds,_,h=>by
  cases h with
  |cons h1 h2=>exact .cons (acR s d _ h1) (YW s ds _ h2)
end
def MvL(H:Hp)(D ml:Addr):Option bK->Prop
 |none=>H D=some (.lst [])
 |some m=>H D=some (.lst [.int ((m.from_+1:Nat):Int),.int ((m.to_+1:Nat):Int),.ref ml])
def MvA(A:uw)(H:Hp)(L:Lay)(v:V)(ml:Addr):Option bK->Prop
 |none=>v= .non
 |some m=>∃ma,v= .ref ma/\qI A H L ma ml m
theorem MvL.keep{H H':Hp}{D ml:Addr}{m:Option bK}(h:MvL H D ml m)(k:∀o,H D=some o->H' D=some o):MvL H' D ml m:=by
 cases m with
 |none=>exact k _ h
 |some m=>exact k _ h
theorem ad8{l:List dw}{ps:List (Addr×Addr)}{i:Nat}{k:Key}{x:V}(h:(eE l ps)[i]? =some (k,x)):∃p a la,l[i]? =some p/\ps[i]? =some (a,la)/\x= .ref a/\k=bW (tx p.name):=by
 unfold eE at h;rw [yS] at h;cases h1:l[i]? with
 |none=>rw [h1] at h;cases h
 |some p=>
  cases h2:ps[i]? with
  |none=>rw [h1,h2] at h;cases h
  |some a=>
   rw [h1,h2] at h;have h:=aB h;exact ⟨p,a.1,a.2,rfl,rfl,(eV h).2.symm,(eV h).1.symm⟩
inductive W7(K:az)(A:uw)(vs:List V)(H:Hp)(Q:VK)(E:XK):Prop
 |mk (pa la:Addr) (i:Nat) (p:dw) (_:vs=[.str (tx p.name),.ref pa]) (_:Dr A H pa la (i+1) p) (_:∀D H',H D=none->bh H H'->H' D=some (.lst [.str (tx p.name),.int ((i+1:Nat):Int),.str (eF p.kind),.bl p.opened,.ref la])->Q (.ref D) H')
theorem XR(T:Txt P w K mg A):fU P w K mg base mU 1 A.Ec A.qj xm (W7 K A):=(by apply aj:aa (by
 refine T.wU.ok Xe (λvs H Q E h=>?_) (λcdv A' outer s H vs Q E hr h=>?_)
 ·obtain ⟨pa,la,i,p,rfl,_⟩:=h;rfl
 ·obtain ⟨pa,la,i,p,rfl,hP,q⟩:=h;refine ⟨_,(aK (bB (cZ (aq (pv 0) (aq (aO (pv 1) rfl) (aq (aO (pv 1) rfl) (aq (aO (pv 1) rfl) (aq (aO (pv 1) rfl) aG)))))))),?_⟩;obtain ⟨dxp,hp0⟩:=hP.ob;walk_at "rd";refine ⟨_,_,_,hp0,T.d7,T.fO,_,rfl,_,_,_,hp0,T.d7,T.iH,_,rfl,_,_,_,hp0,T.d7,T.tH,_,rfl,_,_,_,hp0,T.d7,T.gJ,_,rfl,by rw [sizeLine_eq];decide,λp1 hp1=>q p1 _ hp1 (bh.new hp1) aD⟩))
inductive Z2(A:uw)(vs:List V)(H:Hp)(Q:VK)(E:XK):Prop
 |mk (b ml:Addr) (N:Nat) (B:aC) (es:List Nat) (L:Lay) (S:Addr->Prop) (v:V) (m:Option bK) (_:vs=[v]) (_:bJ A N H b B es L S) (_:MvA A H L v ml m) (_:(∀x,m=some x->x.from_<B.places.length/\x.to_<B.places.length)) (_:∀D H',H D=none->bh H H'->MvL H' D ml m->Q (.ref D) H')
theorem aal(T:Txt P w K mg A):fU P w K mg base mU 1 A.HD A.rT zJ (Z2 A):=(by apply aj:aa (by
 refine T.zj.ok aad (λvs H Q E h=>?_) (λcdv A' outer s H vs Q E hr h=>?_)
 ·obtain ⟨b,ml,N,B,es,L,S,v,m,rfl,_⟩:=h;rfl
 ·obtain ⟨b,ml,N,B,es,L,S,v,m,rfl,hB,hM,hg,q⟩:=h;refine ⟨_,(aK (bB (xX (bZ yG (pv 0) nY (cP _)) (cZ aG) (cZ (aq (aO (aO (pv 0) rfl) rfl) (aq (aO (aO (pv 0) rfl) rfl) (aq (aO (pv 0) rfl) aG))))))),?_⟩;walk_at "rd";cases m with
  |none=>
   have hM:v= .non:=hM;rw [if_pos hM];exact ⟨by omega,λp hp=>q p _ hp (bh.new hp) aD⟩
  |some m=>
   obtain ⟨ma,hv,hM⟩:=hM;rw [if_neg (by rw [hv];simp)];obtain ⟨g1,g2⟩:=hg m rfl;obtain ⟨dxm,sa,tg,hM1,hM2,hM3⟩:=hM.ob;obtain ⟨⟨pa,pla⟩,hps⟩:∃y,L.ps[m.from_]? =some y:=⟨_,ak (by rw [hB.yE];exact g1)⟩;obtain ⟨⟨pb,plb⟩,hpt⟩:∃y,L.ps[m.to_]? =some y:=⟨_,ak (by rw [hB.yE];exact g2)⟩;rw [hps] at hM2;rw [hpt] at hM3;obtain rfl:pa=sa:=aB hM2;obtain rfl:pb=tg:=aB hM3;obtain ⟨dx1,hP1⟩:=(hB.pat m.from_ _ pa pla (ak g1) hps).ob;obtain ⟨dx2,hP2⟩:=(hB.pat m.to_ _ pb plb (ak g2) hpt).ob;refine ⟨ma,hv,_,_,_,hM1,T.mG,T.lA,_,rfl,pa,rfl,_,_,_,hP1,T.d7,T.fO,_,rfl,ma,hv,_,_,_,hM1,T.mG,T.lu,_,rfl,pb,rfl,_,_,_,hP2,T.d7,T.fO,_,rfl,ma,hv,_,_,_,hM1,T.mG,T.lQ,_,rfl,
    by rw [sizeLine_eq];decide,λp hp=>q p _ hp (bh.new hp) aD⟩))
inductive VB(A:uw)(vs:List V)(H:Hp)(Q:VK)(E:XK):Prop
 |mk (b ra ml dx:Addr) (N:Nat) (B:aC) (es:List Nat) (L:Lay) (S:Addr->Prop) (e:Nat) (r:jw) (v:V) (_:vs=[.ref ra]) (_:bJ A N H b B es L S) (_:H ra=some (.ins A.cX dx (nW e r.month (Vy r.code r.user) r.code r.back v))) (_:MvA A H L v ml r.move) (_:r∈B.records) (_:∀D Dm H',H D=none->H Dm=none->bh H H'->H' D=some (.lst [.int (e:Int),.int (r.month:Int),.str (Vy r.code r.user),.int (r.code:Int),.bl r.back,.ref Dm])->MvL H' Dm ml r.move->Q (.ref D) H')
theorem VN(T:Txt P w K mg A):fU P w K mg base mU 2 A.BJ A.oR uY (VB A):=(by apply aj:aa (by
 have adf:=aal (base:=base) T;refine T.uE.ok VG (λvs H Q E h=>?_) (λcdv A' outer s H vs Q E hr h=>?_)
 ·obtain ⟨b,ra,ml,dx,N,B,es,L,S,e,r,v,rfl,_⟩:=h;rfl
 ·obtain ⟨b,ra,ml,dx,N,B,es,L,S,e,r,v,rfl,hB,f1,f2,hm,q⟩:=h;refine ⟨_,(aK (bB (cZ (aq (aO (pv 0) rfl) (aq (aO (pv 0) rfl) (aq (aO (pv 0) rfl) (aq (aO (pv 0) rfl) (aq (aO (pv 0) rfl) (aq (cJ adf (hr.mono (by decide)) rfl T.acJ T.zj.kp T.Ij .nil dz (aq (aO (pv 0) rfl) aG)) aG))))))))),?_⟩;walk_at "rd";refine ⟨_,_,_,f1,T.dg,T.xG,_,rfl,_,_,_,f1,T.dg,T.tG,_,rfl,_,_,_,f1,T.dg,T.qi,_,rfl,_,_,_,f1,T.dg,T.lr,_,rfl,_,_,_,f1,T.dg,T.jf,_,rfl,_,_,_,f1,T.dg,T.d9,_,rfl,
   b,ml,N,B,es,L,S,v,r.move,rfl,hB,f2,λx hx=>let ⟨z1,z2,_⟩:=hB.ok.mv r hm x hx;⟨z1,z2⟩,λD H1 hD s1 h1=>⟨by rw [sizeLine_eq];decide,λp hp=>?_⟩⟩
  generalize ep:upd H1 p _=H2;obtain ⟨s2,s12,hp',h2⟩:=iz s1 hp ep;exact q p D H2 hp' hD s2 h2 (h1.keep λo e=>s12 _ _ e)))
inductive W9(K:az)(A:uw)(vs:List V)(H:Hp)(Q:VK)(E:XK):Prop
 |mk (b:Addr) (N:Nat) (B:aC) (es:List Nat) (L:Lay) (S:Addr->Prop) (_:vs=[.ref b]) (_:bJ A N H b B es L S) (_:B.records.length<=10000) (_:∀D H',H D=none->bh H H'->Dp K H' (.ref D) (acT B es)->Q (.ref D) H')
theorem XX(T:Txt P w K mg A):fU P w K mg base mU 3 A.Ef A.qm xq (W9 K A):=(by apply aj:aa (by
 have aaG:=XR (base:=base) T;have Zv:=VN (base:=base) T;refine T.wW.ok lq (λvs H Q E h=>?_) (λcdv A' outer s H vs Q E hr h=>?_)
 ·obtain ⟨b,N,B,es,L,S,rfl,_⟩:=h;rfl
 ·obtain ⟨b,N,B,es,L,S,rfl,hB,hn,q⟩:=h;refine ⟨_,(aL (lL 1 lq.nd (ach rfl rfl T.ao2 (aO (pv 0) rfl)))
   (aL (ab4 (Kr (i:=2) rfl lq.nd rfl rfl (Q8 rfl rfl rfl (by decide+kernel)) (aea (aO (pv 0) rfl)) (iJ (N:=Er) (sc:=aX rK) (own:=[("name",3),("place",4)]) (by decide+kernel)) (λ_ _ _ _ _=>(uW (K:=K) (n:=2) rfl rfl (g8 (eZ (i:=3) lq.nd rfl (dZ rfl) (hf:=gF rfl)) (g8 (eZ (i:=4) lq.nd rfl (dZ rfl) (hf:=gF rfl)) uV)))) (λ_ _ _ _ _=>kJ) (λ_ _ _ _ _=>(cJ aaG (hr.mono (by decide)) rfl T.aay T.wU.kp T.Eh .nil dz (aq (pv 3) (aq (pv 4) aG))))))
   (aL (Kr (i:=5) rfl lq.nd rfl rfl (Q8 rfl rfl rfl (by decide+kernel)) (uU (aO (pv 0) rfl)) (iJ (N:=Er) (sc:=aX rK) (own:=[("record",6)]) (by decide+kernel)) (λ_ _ _ _ _=>(eZ (i:=6) lq.nd rfl (dZ rfl) (hf:=gF rfl))) (λ_ _ _ _ _=>kJ) (λ_ _ _ _ _=>(cJ Zv (hr.mono (by decide)) rfl T.YD T.uE.kp T.BX .nil dz (aq (pv 6) aG))))
   (aK (bB (cZ (aq (pv 1) (aq (aO (pv 0) rfl) (aq (pv 2) (aq (aO (pv 0) rfl) (aq (aO (pv 0) rfl) (aq (pv 5) aG)))))))))))),?_⟩
  obtain ⟨BV,hb⟩:=hB.bk;have hps:B.places.length<=12:=hB.ok.ps;have hul:(jJ B.users).length=B.users.length:=by unfold jJ;simp
  have ard:(eE B.places L.ps).length=B.places.length:=by unfold eE;rw [iT,hB.yE,xM]
  walk_at "rd";refine ⟨b,rfl,_,_,_,hb,T.cN,T.jq,_,rfl,L.us,_,rfl,hB.us,λl as H1 s1 hl0 h1 hal hat=>?_⟩;unfold ahw;refine ⟨L.pl,.dK (eE B.places L.ps),s1 _ _ hB.pl,trivial,λod=>?_⟩;generalize eH:upd H1 L.pl _=H2;have k2:∀x o,x≠L.pl->H1 x=some o->H2 x=some o:=λx o n h=>by rw [<-eH,aF n];exact h
  have hp2:H2 L.pl=some (.xZ od (.dK (eE B.places L.ps))):=by rw [<-eH,aD]
  have nb:b≠L.pl:=dC hb hB.pl (by intro z;cases z);refine ⟨b,rfl,_,_,_,k2 _ _ nb (s1 _ _ hb),T.cN,T.fG,_,rfl,L.pl,od,_,rfl,hp2,
   alB B.places.length (by rw [sizeLine_eq];omega) (λD k y H'=>∃D5 p pa la,y= .ref D5/\D5≠D/\B.places[k]? =some p/\L.ps[k]? =some (pa,la)/\H' D5=some (.lst [.str (tx p.name),.int ((k+1:Nat):Int),.str (eF p.kind),.bl p.opened,.ref la])) ?_ ?_ ?_ ?_⟩
  ·rintro D k y Ha Hb ⟨D5,p,pa,la,e1,e2,e3,e4,e5⟩ kk;exact ⟨D5,p,pa,la,e1,e2,e3,e4,kk _ _ e2 e5⟩
  ·intro D i H3 R hD hi s3 hDa;refine ⟨⟨s3 _ _ hp2,by rw [ard];exact hi⟩,λhR=>?_⟩;rintro x H4 ⟨t,ky,v,hkv,rfl,ht,rfl⟩;obtain ⟨p,pa,la,g1,g2,rfl,rfl⟩:=ad8 hkv;refine ack ?_;generalize et:upd H3 t _=H4;obtain ⟨_,s34,_,_⟩:=iz (bh.refl H3) ht et;have hP:=hB.pat i p pa la g1 g2;obtain ⟨dxp,hob⟩:=hP.ob;have up4:∀x o,x≠L.pl->H x=some o->H4 x=some o:=λx o n h=>s34 _ _ (s3 _ _ (k2 x o n (s1 _ _ h)));have hP4:Dr A H4 pa la (i+1) p:=hP.keep (λo e=>up4 _ _ (dC hob hB.pl (by intro z;cases z)) e) λo e=>up4 _ _ (dC hP.am hB.pl (by intro z;cases z)) e;refine ⟨Tf _ _ _ (by decide) _ _,pa,la,i,p,rfl,hP4,λD5 H5 hD5 s5 h5=>hR _ _ (s34.trans s5) ⟨D5,p,pa,la,rfl,λz=>?_,g1,g2,h5⟩⟩;rw [z] at hD5;exact hDa (same_none s34 hD5)
  ·intro H3 s3;exact ⟨s3 _ _ hp2,by rw [ard];exact aU _⟩
  ·intro D3 H3 ys hD3 s3 h3 hyl hF;refine ⟨s3 _ _ hp2,?_⟩;generalize e4:upd H3 L.pl _=H4;have k4:∀x o,x≠L.pl->H3 x=some o->H4 x=some o:=λx o n h=>by rw [<-e4,aF n];exact h
   have hp4:H4 L.pl=some (.dK (eE B.places L.ps)):=by rw [<-e4,aD]
   have s14:bh H1 H4:=λx o h=>by
    by_cases hx:x=L.pl
    ·rw [hx] at h⊢;rw [s1 _ _ hB.pl] at h;rw [hp4];exact h
    ·exact k4 x o hx (s3 x o (k2 x o hx h))
   have s04:=s1.trans s14;have n3:D3≠L.pl:=λz=>by rw [z,hp2] at hD3;cases hD3
   have h34:=k4 _ _ n3 h3;have hB4:=hB.same s04;have hF4:∀k y,ys[k]? =some y->∃D5 p pa la,y= .ref D5/\B.places[k]? =some p/\L.ps[k]? =some (pa,la)/\H4 D5=some (.lst [.str (tx p.name),.int ((k+1:Nat):Int),.str (eF p.kind),.bl p.opened,.ref la]):=λk y hy=>by
    obtain ⟨D5,p,pa,la,z1,z2,z3,z4,z5⟩:=hF k y hy;refine ⟨D5,p,pa,la,z1,z3,z4,k4 _ _ (λz=>?_) z5⟩;rw [z,s3 _ _ hp2] at z5;cases z5
   refine ⟨b,rfl,_,_,_,s04 _ _ hb,T.cN,T.fD,_,rfl,L.re,rfl,⟨_,cY.of hB4.re⟩,
    alB B.records.length (by rw [sizeLine_eq];omega) (λD k y H'=>∃D5 Dm ml r e,y= .ref D5/\D5≠D/\Dm≠D/\B.records[k]? =some r/\es[k]? =some e/\
     H' D5=some (.lst [.int (e:Int),.int (r.month:Int),.str (Vy r.code r.user),.int (r.code:Int),.bl r.back,.ref Dm])/\MvL H' Dm ml r.move/\∀m,r.move=some m->H4 ml=some (.lst (bV (m.kg::m.metals)))) ?_ ?_ ?_ ?_⟩
   ·rintro D k y Ha Hb ⟨D5,Dm,ml,r,e,z1,z2,z3,z4,z5,z6,z7,z8⟩ kk;exact ⟨D5,Dm,ml,r,e,z1,z2,z3,z4,z5,kk _ _ z2 z6,z7.keep λo h=>kk _ _ z3 h,z8⟩
   ·intro D i H5 R hD hi s5 hDa;obtain ⟨r,hr0⟩:∃r,B.records[i]? =some r:=⟨_,ak hi⟩;obtain ⟨ra,RK⟩:∃ra,L.rs[i]? =some ra:=⟨_,ak (by rw [hB.Cr];exact hi)⟩;obtain ⟨e0,he0⟩:∃e0,es[i]? =some e0:=⟨_,ak (by rw [hB.esl];exact hi)⟩;obtain ⟨dxr,u,v,f1,f2,f3⟩:=hB4.rat _ r ra e0 hr0 RK he0;rw [f3.2.1] at f1;have hx0:(L.rs.map V.ref)[i]? =some (.ref ra):=by rw [aW,RK];rfl
    refine ⟨⟨_,_,cY.of (s5 _ _ hB4.re),hx0⟩,λhR=>?_⟩;rintro x H6 ⟨rfl,hx⟩;have hx:=hx _ (cY.of (s5 _ _ hB4.re));rw [hx0] at hx;obtain rfl:V.ref ra=x:=aB hx;obtain ⟨ml,hm1,hm2⟩:∃ml,MvA A H4 L v ml r.move/\∀m,r.move=some m->H4 ml=some (.lst (bV (m.kg::m.metals))):=by
     cases hmv:r.move with
     |none=>
      rw [hmv] at f2;exact ⟨0,f2,nofun⟩
     |some m=>
      rw [hmv] at f2;obtain ⟨ma,la,hv,hM,_⟩:=f2;exact ⟨la,⟨ma,hv,hM⟩,λm' e=>by obtain rfl:=aB e;exact hM.am⟩
    have hm6:MvA A H6 L v ml r.move:=by
     revert hm1;cases r.move with
     |none=>exact id
     |some m=>exact λ⟨ma,hv,hM⟩=>⟨ma,hv,hM.keep (λo e=>s5 _ _ e) λo e=>s5 _ _ e⟩
    refine ⟨Mt _ _ _,b,ra,ml,dxr,N,B,es,L,S,e0,r,v,rfl,hB4.same s5,s5 _ _ f1,hm6,aM hr0,λD5 Dm H7 hD5 hDm s7 h7 hL=>hR _ _ s7 ⟨D5,Dm,ml,r,e0,rfl,λz=>hDa (z▸hD5),λz=>hDa (z▸hDm),hr0,he0,h7,hL,hm2⟩⟩
   ·intro H5 s5;exact ⟨_,cY.of (s5 _ _ hB4.re),by rw [ao,hB.Cr];exact aU _⟩
   ·intro D5 H5 zs hD5 s5 h5 hzl hG;have s05:=s04.trans s5;have hB5:=hB.same s05;walk_at "rd";refine ⟨_,_,_,s05 _ _ hb,T.cN,T.jt,_,rfl,_,_,_,s05 _ _ hb,T.cN,T.jR,_,rfl,_,_,_,s05 _ _ hb,T.cN,T.vA,_,rfl,by rw [sizeLine_eq];decide,λp hp=>?_⟩;generalize e6:upd H5 p _=H6;obtain ⟨s6,s56,hp',h6⟩:=iz s05 hp e6;have s16:bh H1 H6:=(s14.trans s5).trans s56;have s46:bh H4 H6:=s5.trans s56;refine q p H6 hp' s6 (.lst (cY.of h6) (.cons ?_ (.cons ?_ (.cons ?_ (.cons (.int _) (.cons ?_ (.cons ?_ .nil)))))))
    ·refine .lst (cY.of (s16 _ _ h1)) (Gg _ _ (by rw [ao,ao,hal,hul]) λi x d g1 g2=>?_);rw [aW,dO] at g1 g2;obtain ⟨a0,ha0,rfl⟩:=g1;obtain ⟨u,hu,rfl⟩:=g2;have:=(hat i a0 (bW (tx u.name)) (V.int (u.rank:Int)) ha0 (by unfold jJ;rw [aW,hu];rfl)).1;exact .tup (Ol.of (s16 _ _ this)) (.cons (.str _) (.cons (.int _) .nil))
    ·refine .lst (cY.of (s6 _ _ hB.me)) (Gg _ _ (by simp) λi x d g1 g2=>?_);rw [aW,dO] at g1 g2;obtain ⟨m1,hm1,rfl⟩:=g1;obtain ⟨m2,hm2,rfl⟩:=g2;rw [hm1] at hm2;obtain rfl:=aB hm2;exact .str _
    ·refine .lst (cY.of (s46 _ _ h34)) (Gg _ _ (by rw [hyl,ao,Vu]) λi x d g1 g2=>?_);obtain ⟨D7,p7,pa,la,z1,z2,z3,z4⟩:=hF4 i x g1;rw [aW,QT,z2] at g2;obtain rfl:=aB g2;rw [z1];have hP:=hB.pat i p7 pa la z2 z3;have:Dp K H6 (.ref la) (dB (p7.kg::p7.metals)):=RV (cY.of (s6 _ _ hP.am));simp only [mX];exact .lst (cY.of (s46 _ _ z4)) (.cons (.str _) (.cons (.int _) (.cons (.str _) (.cons (.bl _) (.cons this .nil)))))
    ·exact RV (cY.of (s6 _ _ hB.sc))
    ·refine .lst (cY.of (s56 _ _ h5)) (Gg _ _ (by rw [hzl,ao,List.length_zip,hB.esl,xM]) λi x d g1 g2=>?_);obtain ⟨D7,Dm,ml,r,e,z1,_,_,z4,z5,z6,z7,z8⟩:=hG i x g1;have hzp:(es.zip B.records)[i]? =some (e,r):=Gn.mpr ⟨z5,z4⟩;rw [aW,hzp] at g2;obtain rfl:=aB g2;rw [z1];refine .lst (cY.of (s56 _ _ z6)) (.cons (.int _) (.cons (.int _) (.cons (.str _) (.cons (.int _) (.cons (.bl _) (.cons ?_ .nil))))));cases hmv:r.move with
     |none=>
      rw [hmv] at z7;exact .lst (cY.of (s56 _ _ z7)) .nil
     |some m=>
      rw [hmv] at z7;exact .lst (cY.of (s56 _ _ z7)) (.cons (.int _) (.cons (.int _) (.cons (RV (cY.of (s46 _ _ (z8 m hmv)))) .nil)))))
theorem T5:∀ds:List PyData,(∀d∈ds,d.canLay0=true)->iW ds=true
 |[],_=>rfl
 |d::ds,h=>by
  show (d.canLay0&&iW ds)=true;rw [h d bz,T5 ds λx hx=>h x (aV _ hx)];rfl
theorem rO{ds:List PyData}(h:∀d∈ds,d.canLay0=true):(Ai ds).canLay0=true:=T5 ds h
theorem Lk(n:Nat):∀ds:List PyData,(∀d∈ds,d.depth<=n)->gM ds<=n
 |[],_=>by simp [gM]
 |d::ds,h=>by
  have h1:=h d bz;have h2:=Lk n ds λx hx=>h x (aV _ hx);simp only [gM];omega
theorem pG{n:Nat}{ds:List PyData}(h:∀d∈ds,d.depth<=n):(Ai ds).depth<=n+1:=by
 have:=Lk n ds h;have e:(Ai ds).depth=gM ds+1:=by simp [lJ]
 omega
theorem agM{n:Nat}{ds:List PyData}(h:∀d∈ds,d.depth<=n):(PyData.tuple ds).depth<=n+1:=by
 have:=Lk n ds h;have e:(PyData.tuple ds).depth=gM ds+1:=by simp [lJ]
 omega
mutual
theorem aeW:∀d:PyData,d.canLay0=true->iQ d d=true
 |.none,_=>by simp [iQ]
 |.bool _,_=>by simp [iQ]
 |.int _,_=>by simp [iQ]
 |.str _,_=>by simp [iQ]
 |.list ds,h=>by
  have:=Lj ds h;simpa [iQ] using this
 |.tuple ds,h=>by
  have:=Lj ds h;simpa [iQ] using this
 |.dict _,h=>by cases h
theorem Lj:∀ds:List PyData,iW ds=true->jx ds ds=true
 |[],_=>by simp [jx]
 |d::ds,h=>by
  have h:(d.canLay0&&iW ds)=true:=h;rw [bf] at h;simp only [jx];rw [aeW d h.1,Lj ds h.2];rfl
end
theorem Ag:∀d:PyData,(match d with | .none | .bool _ | .int _ | .str _=>True | _=>False)->d.depth<=1
 |.none,_=>by simp [lJ]
 |.bool _,_=>by simp [lJ]
 |.int _,_=>by simp [lJ]
 |.str _,_=>by simp [lJ]
theorem ahx{z:Str}(h:∀c∈z.cps.toList,c<0x110000):(PyData.str z).canLay0=true:=by
 show z.cps.all (· <0x110000)=true;rw [<-Array.all_toList,dH];intro c hc;exact decide_eq_true (h c hc)
theorem X6{n:List Nat}(h:bj n=true):(PyData.str (tx n)).canLay0=true:=ahx λc hc=>by
 rw [abB,<-um (oA h)] at hc;obtain ⟨d,_,rfl⟩:=cF.mp hc;exact Xb d
theorem alC(k:eU):(PyData.str (eF k)).canLay0=true:=by cases k<;>decide+kernel
theorem acU(l:List Nat):(dB l).canLay0=true:=rO λd hd=>by
 obtain ⟨n,_,rfl⟩:=cF.mp hd;rfl
theorem Wi(l:List Nat):(dB l).depth<=2:=pG (n:=1) λd hd=>by
 obtain ⟨n,_,rfl⟩:=cF.mp hd;exact Ag _ trivial
theorem ae1(m:Option bK):(aij m).canLay0=true/\(aij m).depth<=3:=(by apply aj:aa (by
 cases m with
 |none=>exact ⟨rfl,by simp [aij,lJ,gM]⟩
 |some m=>
  refine ⟨rO λd hd=>?_,pG (n:=2) λd hd=>?_⟩
  ·simp only [bc,bU,or_false] at hd;rcases hd with rfl | rfl | rfl
   ·rfl
   ·rfl
   ·exact acU _
  ·simp only [bc,bU,or_false] at hd;rcases hd with rfl | rfl | rfl
   ·exact aY (Ag _ trivial) (by decide)
   ·exact aY (Ag _ trivial) (by decide)
   ·exact Wi _))
theorem ajT{N:Nat}{H:Hp}{b:Addr}{L:Lay}{S:Addr->Prop}{st:cB}(h:bJ A N H b st.books st.ends L S):mW (Ui st)=true:=(by apply aj:aa (by
 have small:∀r∈st.books.records,∀c∈(Vy r.code r.user).cps.toList,c<0x110000:=λr hr=>by
  obtain ⟨i,hi⟩:=aki.mp hr;have hlt:=(aQ.mp hi).1;obtain ⟨dx,u,v,_,_,g3⟩:=h.rat i r _ _ hi (ak (by rw [h.Cr];exact hlt)) (ak (by rw [h.esl];exact hlt));have:=g3.2.2;rw [g3.2.1] at this;exact this
 have a1:∀d:PyData,(match d with | .none | .bool _ | .int _ | .str _=>True | _=>False)->∀n,1<=n->d.depth<=n:=λd hd n hn=>aY (Ag d hd) hn;have hB:(acT st.books st.ends).canLay0=true/\(acT st.books st.ends).depth<=10:=by
  refine ⟨rO λd hd=>?_,aY (pG (n:=8) λd hd=>?_) (by decide)⟩
  ·simp only [bc,bU,or_false] at hd;rcases hd with rfl | rfl | rfl | rfl | rfl | rfl
   ·refine rO λd hd=>?_;obtain ⟨u,hu,rfl⟩:=cF.mp hd;refine T5 _ λd hd=>?_;simp only [bc,bU,or_false] at hd;rcases hd with rfl | rfl
    ·exact X6 (h.ok.un u hu)
    ·rfl
   ·refine rO λd hd=>?_;obtain ⟨u,hu,rfl⟩:=cF.mp hd;exact X6 (h.ok.mn u hu)
   ·refine rO λd hd=>?_;obtain ⟨u,hu,rfl⟩:=cF.mp hd;have hm:u.1∈st.books.places:=by
     obtain ⟨p,i⟩:=u;exact (List.mem_zipIdx' hu).2▸ZL _
    refine rO λd hd=>?_;simp only [bc,bU,or_false] at hd;rcases hd with rfl | rfl | rfl | rfl | rfl
    ·exact X6 (h.ok.pn _ hm)
    ·rfl
    ·exact alC _
    ·rfl
    ·exact acU _
   ·rfl
   ·exact acU _
   ·refine rO λd hd=>?_;obtain ⟨u,hu,rfl⟩:=cF.mp hd;have hm:u.2∈st.books.records:=(Ou (a:=u.1) (b:=u.2) hu).2;refine rO λd hd=>?_;simp only [bc,bU,or_false] at hd;rcases hd with rfl | rfl | rfl | rfl | rfl | rfl
    ·rfl
    ·rfl
    ·exact ahx (small _ hm)
    ·rfl
    ·rfl
    ·exact (ae1 _).1
  ·simp only [bc,bU,or_false] at hd;rcases hd with rfl | rfl | rfl | rfl | rfl | rfl
   ·refine aY (pG (n:=2) λd hd=>?_) (by decide);obtain ⟨u,hu,rfl⟩:=cF.mp hd;refine agM (n:=1) λd hd=>?_;simp only [bc,bU,or_false] at hd;rcases hd with rfl | rfl<;>exact Ag _ trivial
   ·refine aY (pG (n:=1) λd hd=>?_) (by decide);obtain ⟨u,hu,rfl⟩:=cF.mp hd;exact Ag _ trivial
   ·refine aY (pG (n:=3) λd hd=>?_) (by decide);obtain ⟨u,hu,rfl⟩:=cF.mp hd;refine pG (n:=2) λd hd=>?_;simp only [bc,bU,or_false] at hd;rcases hd with rfl | rfl | rfl | rfl | rfl
    ·exact a1 _ trivial _ (by decide)
    ·exact a1 _ trivial _ (by decide)
    ·exact a1 _ trivial _ (by decide)
    ·exact a1 _ trivial _ (by decide)
    ·exact Wi _
   ·exact a1 _ trivial _ (by decide)
   ·exact aY (Wi _) (by decide)
   ·refine aY (pG (n:=4) λd hd=>?_) (by decide);obtain ⟨u,hu,rfl⟩:=cF.mp hd;refine pG (n:=3) λd hd=>?_;simp only [bc,bU,or_false] at hd;rcases hd with rfl | rfl | rfl | rfl | rfl | rfl
    ·exact a1 _ trivial _ (by decide)
    ·exact a1 _ trivial _ (by decide)
    ·exact a1 _ trivial _ (by decide)
    ·exact a1 _ trivial _ (by decide)
    ·exact a1 _ trivial _ (by decide)
    ·exact (ae1 _).2
 have c1:(Ui st).canLay0=true:=rO λd hd=>by
  simp only [bc,bU,or_false] at hd;rcases hd with rfl | rfl | rfl | rfl
  ·exact acU _
  ·rfl
  ·rfl
  ·exact hB.1
 have c2:(Ui st).depth<=11:=pG (n:=10) λd hd=>by
  simp only [bc,bU,or_false] at hd;rcases hd with rfl | rfl | rfl | rfl
  ·exact aY (Wi _) (by decide)
  ·exact a1 _ trivial _ (by decide)
  ·exact a1 _ trivial _ (by decide)
  ·exact hB.2
 unfold mW;rw [c1,decide_eq_true (by omega)];rfl))
inductive adL(K:az)(A:uw)(vs:List V)(H:Hp)(Q:VK)(E:XK):Prop
 |mk (j ta b:Addr) (N:Nat) (st:cB) (L:Lay) (S:Addr->Prop) (_:vs=[.ref j]) (_:gf A N H st.broken j ta b st L S) (_:st.books.records.length<=10000) (_:∀D H',H D=none->bh H H'->Dp K H' (.ref D) (Ui st)->Q (.ref D) H')
theorem aei(T:Txt P w K mg A):fU P w K mg base mU 4 A.Qn A.ye Hl (adL K A):=(by apply aj:aa (by
 have aaH:=XX (base:=base) T;refine T.Aq.ok adV (λvs H Q E h=>?_) (λcdv A' outer s H vs Q E hr h=>?_)
 ·obtain ⟨j,ta,b,N,st,L,S,rfl,_⟩:=h;rfl
 ·obtain ⟨j,ta,b,N,st,L,S,rfl,hJ,hn,q⟩:=h;refine ⟨_,(aK (bB (cZ (aq (aO (pv 0) rfl) (aq (aO (pv 0) rfl) (aq (aO (pv 0) rfl) (aq (cJ aaH (hr.mono (by decide)) rfl T.aaz T.wW.kp T.Ei .nil dz (aq (aO (pv 0) rfl) aG)) aG))))))),?_⟩;obtain ⟨Oi,hj⟩:=hJ.ob;walk_at "rd";refine ⟨_,_,_,hj,T.bR,T.eN,_,rfl,_,_,_,hj,T.bR,T.ie,_,rfl,_,_,_,hj,T.bR,T.jo,_,rfl,_,_,_,hj,T.bR,T.cI,_,rfl,b,N,_,_,L,S,rfl,hJ.bk,hn,λD H1 hD s1 h1=>⟨by rw [sizeLine_eq];decide,λp hp=>?_⟩⟩;generalize ep:upd H1 p _=H2;obtain ⟨s2,s12,hp',h2⟩:=iz s1 hp ep;exact q p H2 hp' s2 (.lst (cY.of h2) (.cons (RV (cY.of (s2 _ _ hJ.ha))) (.cons (.int _) (.cons (.bl _) (.cons (acR s12 _ _ h1) .nil)))))))
theorem agi(T:Txt P w K mg A):fU P w K mg base mU 9 A.qD A.oZ vh (pH A (λl=>.check) λl=>l.length=0):=(by apply aj:aa (by
 have qX:=Ea (base:=base) T (xF T (De T));have Zu:=aei (base:=base) T;have vV:=Ft (base:=base) T;refine T.uM.ok Jr (λvs H Q E h=>?_) (λcdv A' outer s H vs Q E hr h=>?_)
 ·obtain ⟨d,a,st,S,args,rfl,_⟩:=h;rfl
 ·obtain ⟨d,a,st,S,args,rfl,hD,na,ha,hl,pre,q⟩:=h;refine ⟨_,(aL (lL 2 Jr.nd (cJ qX (hr.mono (by decide)) rfl T.zW T.nR.kp T.qW .nil dz (aq (aO (aO (pv 0) rfl) rfl) aG)))
   (aK (bB (cZ (aq bG (aq (cJ vV (hr.mono (by decide)) rfl T.Nm T.zf.kp T.Dj .nil dz (aq (nZ (af4 (ant hr)) (cJ Zu (hr.mono (by decide)) rfl T.YC T.Aq.kp T.Ig .nil dz (aq (aO (pv 0) rfl) aG)) (cJ Zu (hr.mono (by decide)) rfl T.YC T.Aq.kp T.Ig .nil dz (aq (pv 2) aG)) (cP _)) aG)) aG)))))),?_⟩
  obtain ⟨dx,j,ta,b,N,L,S0,hd,hJ,hN,hS0,sj,sta,sd,nd⟩:=hD.ex;obtain ⟨Oi,hj⟩:=hJ.ob;obtain ⟨BV,hb⟩:=hJ.bk.bk;have hst:bC st .check=(st,qJ [1]):=by
   show (st,qJ [if cU st.journal=st then 1 else 0])=_;rw [if_pos hD.re]
  have k:=eQ hD hst q;have hrl:st.books.records.length<=10000:=by
   have:=hJ.nl;have:=hD.len;omega
  have hsh:=ajT hJ.bk;walk_at "rd";refine ⟨_,_,_,hd,T.mH,T.cV,_,rfl,_,rfl,_,_,_,hj,T.bR,T.eN,_,rfl,ta,st.journal,rfl,hJ.ha,hD.len,λj' ta' b' N' L' S' H1 hJ1 hN1 _ _ _ s1=>?_⟩;rw [hD.re] at hJ1;refine ⟨_,_,_,s1 _ _ hd,T.mH,T.cV,_,rfl,j,ta,b,N,st,L,S0,rfl,hJ.same s1,hrl,λD2 H2 hD2 s2 h2=>?_⟩;refine ⟨j',ta',b',N',st,L',S',rfl,hJ1.same s2,hrl,λD3 H3 hD3 s3 h3=>?_⟩;refine ⟨Ui st,Ui st,acR s3 _ _ h2,h3,hsh,hsh,?_⟩;rw [aeW _ (QX.mp hsh).1];refine ⟨true,rfl,by rw [sizeLine_eq];decide,λp hp=>k p _ (((s1.trans s2).trans s3).X5 hp) (same_none ((s1.trans s2).trans s3) hp) ?_⟩;rw [aD];rfl))
end
section
variable {P:Program} {w:World} {K:az} {mg:Str->Option Value} {base:Heap} {A:uw}
noncomputable def Hh (k:Nat):Bool:=[0,6,11,12,14].contains k
noncomputable def yF (k:Nat):Nat:=[0,1,0,2,1,0,0,1,1,1,0,0,0,0,0,0].getD k 0
noncomputable def Ls (k:Nat) (l:List Int):akx:=match k with
 |0=>.feed l
 |1=>.cut (l.getD 0 0)
 |2=>.status
 |3=>.bytes (l.getD 0 0) (l.getD 1 0)
 |4=>.record (l.getD 0 0)
 |5=>.balance
 |6=>.place l
 |7=>.asof (l.getD 0 0)
 |8=>.month (l.getD 0 0)
 |9=>.royalty (l.getD 0 0)
 |10=>.users
 |11=>.sum_ l
 |12=>.write l
 |13=>.open_
 |14=>.trail l
 |_=>.check
def aoS(k:Nat)(l:List Int):Prop:=if Hh k=true then l.length<=3000 else l.length=yF k
theorem aoP{r x t:List Int}(h:PyFlat.row r=some (x,t)):r=(x.length:Int)::(x++t):=by
 cases r with
 |nil=>cases h
 |cons n r=>
  unfold PyFlat.row at h;dsimp only at h;by_cases hc:0<=n/\n.toNat<=r.length
  ·rw [if_pos hc] at h;have h:=aB h;have h1:=(eV h).1;have h2:=(eV h).2;rw [<-h1,<-h2,Pu,bO,Cu hc.2];congr 1;omega
  ·rw [if_neg hc] at h;cases h
theorem ahD{k:Nat}{r t:List Int}{xs:List (List Int)}(h:QR k r=some (xs,t))(hk:k<=1):(k=0/\xs=[]/\r=t)\/(k=1/\∃x,xs=[x]/\r=(x.length:Int)::(x++t)):=(by apply aj:aa (by
 match k,hk with
 |0,_=>
  unfold QR at h;have h:=aB h;exact .inl ⟨rfl,(eV h).1.symm,(eV h).2⟩
 |1,_=>
  unfold QR at h;cases hr:PyFlat.row r with
  |none=>rw [hr] at h;cases h
  |some y=>
   obtain ⟨x,s⟩:=y;rw [hr] at h;unfold QR at h;have h:=aB h;obtain ⟨h1,h2⟩:=eV h;subst h1 h2;exact .inr ⟨rfl,x,rfl,aoP hr⟩))
theorem ak0{p:Int}{n k:Nat}(h:lV p=some (n,k)):∃i:Nat,i<16/\p=(i:Int)/\((Hh i=true/\n=0/\k=1)\/(Hh i=false/\n=yF i/\k=0)):=(by apply aj:aa (by
 unfold lV at h;have go:∀{c:Prop} [Decidable c] {a:Nat×Nat} {r:Option (Nat×Nat)} {G:Prop},(if c then some a else r)=some (n,k)->(c->a=(n,k)->G)->(r=some (n,k)->G)->G:=by
  intro c _ a r G h f g;by_cases q:c
  ·rw [if_pos q] at h;exact f q (aB h)
  ·rw [if_neg q] at h;exact g h
 refine go h (λq e=>⟨0,by decide,q,?_⟩) λh=>go h (λq e=>⟨1,by decide,q,?_⟩) λh=>go h (λq e=>⟨2,by decide,q,?_⟩) λh=>go h (λq e=>⟨3,by decide,q,?_⟩) λh=>
  go h (λq e=>⟨4,by decide,q,?_⟩) λh=>go h (λq e=>⟨5,by decide,q,?_⟩) λh=>go h (λq e=>⟨6,by decide,q,?_⟩) λh=>go h (λq e=>⟨7,by decide,q,?_⟩) λh=>
  go h (λq e=>⟨8,by decide,q,?_⟩) λh=>go h (λq e=>⟨9,by decide,q,?_⟩) λh=>go h (λq e=>⟨10,by decide,q,?_⟩) λh=>go h (λq e=>⟨11,by decide,q,?_⟩) λh=>
  go h (λq e=>⟨12,by decide,q,?_⟩) λh=>go h (λq e=>⟨13,by decide,q,?_⟩) λh=>go h (λq e=>⟨14,by decide,q,?_⟩) λh=>go h (λq e=>⟨15,by decide,q,?_⟩) λh=>nomatch h
 all_goals
  obtain ⟨e1,e2⟩:=eV e;subst e1 e2;decide))
theorem call_of{p:Int}{r t:List Int}{c:List (List Int)}(h:akz lV (p::r)=some (c,t)):
  ∃(i:Nat) (x:List Int),i<16/\p=(i:Int)/\((Hh i=true/\r=(x.length:Int)::(x++t)/\c=[[p],x])\/(Hh i=false/\x.length=yF i/\r=x++t/\c=[p::x])):=(by apply aj:aa (by
 unfold akz at h;dsimp only at h;cases hs:lV p with
 |none=>rw [hs] at h;cases h
 |some y=>
  obtain ⟨n,k⟩:=y;rw [hs] at h;dsimp only at h;obtain ⟨i,hi,hp,hk⟩:=ak0 hs;split at h
  ·cases h
  ·rename_i hlen;cases hr:QR k (r.drop n) with
   |none=>rw [hr] at h;cases h
   |some y=>
    obtain ⟨xs,s⟩:=y;rw [hr] at h;have h:=aB h;obtain ⟨h1,h2⟩:=eV h;subst h1 h2;rcases hk with ⟨k1,rfl,rfl⟩ | ⟨k1,rfl,rfl⟩
    ·rcases ahD hr (by decide) with ⟨z,_⟩ | ⟨_,x,rfl,e⟩
     ·cases z
     ·rw [oG] at e;exact ⟨i,x,hi,hp,.inl ⟨k1,e,by rw [List.take_zero]⟩⟩
    ·rcases ahD hr (by decide) with ⟨_,rfl,e⟩ | ⟨z,_⟩
     ·exact ⟨i,r.take (yF i),hi,hp,.inr ⟨k1,by rw [bO];omega,by rw [<-e,Pu],rfl⟩⟩
     ·cases z))
theorem step_call{st:cB}{i:Nat}{x:List Int}{c:List (List Int)}(hi:i<16)(h:(Hh i=true/\c=[[(i:Int)],x])\/(Hh i=false/\x.length=yF i/\c=[(i:Int)::x]))(ha:QJ (jB c)=true):
  jU st (jB c)=bC st (Ls i x)/\aoS i x:=(by apply aj:aa (by
 have:i=0\/i=1\/i=2\/i=3\/i=4\/i=5\/i=6\/i=7\/i=8\/i=9\/i=10\/i=11\/i=12\/i=13\/i=14\/i=15:=by omega
 have z0:x.length=0->x=[]:=Ao;have z1:x.length=1->∃a,x=[a]:=λh=>by
  match x,h with
  |[a],_=>exact ⟨a,rfl⟩
 have z2:x.length=2->∃a b,x=[a,b]:=λh=>by
  match x,h with
  |[a,b],_=>exact ⟨a,b,rfl⟩
 have rw3:∀l:List Int,VbmiamNeutral.row l 3000=true->l.length<=3000:=λl h=>by
  unfold VbmiamNeutral.row at h;rw [bf,decide_eq_true_eq] at h;exact h.1
 rcases this with z | z | z | z | z | z | z | z | z | z | z | z | z | z | z | z<;>subst z
 all_goals
  rcases h with ⟨h1,rfl⟩ | ⟨h1,h2,rfl⟩
  all_goals first
   |(exact absurd h1 (by decide))
   |exact ⟨rfl,rw3 x ha⟩
   |(obtain rfl:=z0 h2;exact ⟨rfl,rfl⟩)
   |(obtain ⟨a,rfl⟩:=z1 h2;exact ⟨rfl,rfl⟩)
   |(obtain ⟨a,b,rfl⟩:=z2 h2;exact ⟨rfl,rfl⟩)))
noncomputable def amo (A:uw):List Addr:=[A.sJ,A.vN,A.pB,A.qF,A.pC,A.nP,A.qz,A.sO,A.qC,A.nO,A.qx,A.vM,A.qw,A.mC,A.qy,A.qD]
theorem km.keep{H H':Hp}{d:Addr}{st:cB}{S:Addr->Prop}(h:km A H d st S)(k:∀x o,S x->H x=some o->H' x=some o):km A H' d st S where
 ex:=by
  obtain ⟨dx,j,ta,b,N,L,S0,h1,h2,h3,h4,h5,h6,h7,h8⟩:=h.ex;refine ⟨dx,j,ta,b,N,L,S0,k _ _ h7 h1,h2.keep λx o hx e=>k x o ?_ e,h3,h4,h5,h6,h7,h8⟩;rcases hx with hx | rfl | rfl
  ·exact h4 x hx
  ·exact h5
  ·exact h6
 len:=h.len
 re:=h.re
 al:=λx hx z=>by
  cases hh:H x with
  |none=>exact h.al x hx hh
  |some o=>rw [k x o hx hh] at z;cases z
theorem aiI{st:cB}{c:List (List Int)}{cs:List (List (List Int))}:Jg (Ad jU st ((c::cs).map jB))=
  (((jU st (jB c)).2.length:Int)::(jU st (jB c)).2)++Jg (Ad jU (jU st (jB c)).1 (cs.map jB)):=by
 simp [Ad,Jg]
inductive GK(K:az)(vs:List V)(H:Hp)(Q:VK)(E:XK):Prop
 |mk (a:Addr) (l:List Int) (_:vs=[.ref a]) (_:cY K H a (iV l)) (_:l.length<=16000) (_:ain l=true) (_:∀(H':Hp) (p:Addr),H' p=some (.lst (iV (yX l)))->Q (.ref p) H')
inductive ar4(A:uw)(H:Hp)(a d p:Addr)(l:List Int)(R:Nat->Prop)(σ:St)(H':Hp):Prop
 |mk (at_ fu:Nat) (cs:List (List (List Int))) (st:cB) (S:Addr->Prop) (tl:List Int) (v4 v5 v6 v7:Option V) (_:σ=[some (V.ref a),some (V.ref d),some (V.ref p),some (V.int (at_:Int)),v4,v5,v6,v7]) (_:R at_) (_:at_<=l.length) (_:Ob lV fu (l.drop at_)=some cs) (_:∀c∈cs,QJ (jB c)=true) (_:km A H' d st S) (_:∀x,S x->H x=none) (_:¬S p) (_:bh H H') (_:H' p=some (.lst (iV tl))) (_:tl++Jg (Ad jU st (cs.map jB))=yX l)
theorem agc(T:Txt P w K mg A)(hall:∀(i:Nat) (f:Addr),(amo A)[i]? =some f->anW P w K mg base 9 f (pH A (Ls i) (aoS i))):fU P w K mg base mU 10 A.Nz A.t8 Fq (GK K):=(by apply aj:aa (by
 have afi:=acx (base:=base) T;refine T.MK.ok jb (λvs H Q E h=>?_) (λcdv A' outer s H vs Q E hr h=>?_)
 ·obtain ⟨a,l,rfl,_⟩:=h;rfl
 ·obtain ⟨a,l,rfl,ha,hl,aeR,q⟩:=h;refine ⟨_,(aL (lL 1 jb.nd (Rk T.anh afi (hr.mono (by decide)) rfl T.apz T.LK .nil dz))
   (aL (lL 2 jb.nd (cZ aG))
   (aL (lL 3 jb.nd bG)
   (bw (ad4 ji (bZ Kv (pv 3) (cH cW rfl T.jG bI (aq (pv 0) aG)) (cP _)) (aL (lL 4 jb.nd (iG fP (pv 0) (pv 3) (λ_ _=>rfl)))
   (aL (lL 5 jb.nd (iG agv (bH T.Rz) (pv 4) (λ_ _=>rfl)))
   (bw (Xo jb.nd rfl (dZ rfl) bG Yt (i:=3)))))))))),?_⟩
  have atY:∃raw,Ob lV l.length l=some raw/\(∀c∈raw,QJ (jB c)=true)/\yX l=Jg (Ad jU VbmiamNeutral.start (raw.map jB))/\(yX l).length<=10000000:=by
   unfold ain at aeR;cases hc:Ob lV l.length l with
   |none=>rw [hc] at aeR;cases aeR
   |some raw=>
    rw [hc] at aeR;simp only [bf] at aeR;obtain ⟨⟨_,h1⟩,h2⟩:=aeR;refine ⟨raw,rfl,λc hm=>?_,?_,?_⟩
    ·unfold VbmiamNeutral.asked at h1;rw [bf] at h1;exact dH.mp h1.1 _ (cF.mpr ⟨c,hm,rfl⟩)
    ·unfold yX PyVbmiam.calls;rw [hc]
    ·unfold PyFlat.short at h2;exact of_decide_eq_true h2
  obtain ⟨raw,r1,r2,r3,r4⟩:=atY;walk_at "rd";intro d dxd hd0 hdx hne;refine ⟨d,dxd,rfl,aD,λS0 H2 hD2 hS2 agx=>⟨rfl,eX _,λp hp=>?_⟩⟩;have hH2:bh H H2:=λx o h=>by
   have n1:x≠d:=λz=>by rw [z,hd0] at h;cases h
   have n2:x≠dxd:=λz=>by rw [z,hdx] at h;cases h
   exact agx x o (by rw [aF n1,aF n2];exact h) n1
  have hS0:∀x,S0 x->H x=none:=λx hx=>by
   rcases hS2 x hx with z | z
   ·rw [z];exact hd0
   ·cases hh:H x with
    |none=>rfl
    |some o=>
     have n1:x≠d:=λz=>by rw [z,hd0] at hh;cases hh
     have n2:x≠dxd:=λz=>by rw [z,hdx] at hh;cases hh
     rw [aF n1,aF n2,hh] at z;cases z
  generalize ep:upd H2 p _=H3;obtain ⟨s3,s23,hp',h3⟩:=iz hH2 hp ep;unfold akU;refine ⟨λm=>ar4 A H a d p l λx=>m=l.length - x,⟨_,0,l.length,raw,jz,S0,[],_,_,_,_,rfl,rfl,eX _,r1,r2,hD2.same s23,hS0,λz=>hD2.al p z hp,s3,h3,r3.symm⟩,?_⟩;rintro m σ H4 ⟨at_,fu,cs,st,S,tl,v4,v5,v6,v7,rfl,rfl,hat,hcs,alS,hD,hS,nSp,s4,h4,htl⟩;have ha4:=s4.seq ha;walk_at "rd";refine ⟨_,.inl ha4,?_⟩;rw [ao];by_cases hlt:at_<l.length
  ·rw [if_pos (by omega)];obtain ⟨p0,r,hdr⟩:∃p0 r,l.drop at_=p0::r:=by
    cases hh:l.drop at_ with
    |nil=>rw [akI] at hh;omega
    |cons p0 r=>exact ⟨p0,r,rfl⟩
   rw [hdr] at hcs;obtain ⟨fu',rfl⟩:∃fu',fu=fu'+1:=by
    cases fu with
    |zero=>cases hcs
    |succ n=>exact ⟨n,rfl⟩
   unfold Ob at hcs;cases hcall:akz lV (p0::r) with
   |none=>rw [hcall] at hcs;cases hcs
   |some y=>
    obtain ⟨c,t⟩:=y;rw [hcall] at hcs;dsimp only at hcs;cases anw:Ob lV fu' t with
    |none=>rw [anw] at hcs;cases hcs
    |some cs'=>
     rw [anw] at hcs;obtain rfl:=aB hcs;obtain ⟨i,x,hi,rfl,hcase⟩:=call_of hcall;have h0:(iV l)[at_]? =some (V.int (i:Int)):=by
      have:(l.drop at_)[0]? =some (i:Int):=by rw [hdr];rfl
      rw [v8,Ws] at this;rw [aW,this];rfl
     have alQ:l.drop (at_+1)=r:=by
      rw [<-gO,hdr];rfl
     have hplain:([V.int 0,V.int 1,V.int 0,V.int 2,V.int 1,V.int 0,V.int 0,V.int 1,V.int 1,V.int 1,V.int 0,V.int 0,V.int 0,V.int 0,V.int 0,V.int 0]:List V)[i]? =some (V.int (yF i:Int)):=(show ∀i:Nat,i<16->([V.int 0,V.int 1,V.int 0,V.int 2,V.int 1,V.int 0,V.int 0,V.int 1,V.int 1,V.int 1,V.int 0,V.int 0,V.int 0,V.int 0,V.int 0,V.int 0]:List V)[i]? =some (V.int (yF i:Int)) by decide) i hi;have hin:inV (V.int (i:Int)) [V.int 0,V.int 6,V.int 11,V.int 12,V.int 14]=Hh i:=(show ∀i:Nat,i<16->inV (V.int (i:Int)) [V.int 0,V.int 6,V.int 11,V.int 12,V.int 14]=Hh i by decide) i hi;obtain ⟨fi,hfi⟩:∃fi,(amo A)[i]? =some fi:=⟨_,ak (by show i<16;exact hi)⟩;have ars:((amo A).map V.ref)[i]? =some (V.ref fi):=by rw [aW,hfi];rfl
     have hcl:c∈c::cs':=bz;refine ⟨ar4 A H a d p l λx=>at_<x,λσ' H' ⟨apQ,fu,cs,st,S,tl,v4,v5,v6,v7,z1,z2,z3,z4,z5,z6,z7,z8,z9,y1,y2⟩=>⟨l.length - apQ,by have z2:at_<apQ:=z2;omega,apQ,fu,cs,st,S,tl,v4,v5,v6,v7,z1,rfl,z3,z4,z5,z6,z7,z8,z9,y1,y2⟩,?_⟩;refine ⟨_,ha4,V.int (i:Int),fH (j:=at_) h0,(i:Int),rfl,_,T.Q7.sq,V.int (yF i:Int),fH (j:=i) hplain,?_⟩;refine cz (bw (dW (bZ Ni (pv 4) (bH T.ano) rfl) (aL (lL 5 jb.nd (iG fP (pv 0) (pv 3) (λ_ _=>rfl)))
   (aK (Xo jb.nd rfl (dZ rfl) bG Yt (i:=3)))) b7)) ?_;walk_at "rd"
     refine ⟨_,.inr T.amH.sq,rfl,rfl,?_⟩;rw [hin];rw [aiI] at htl;have avf:x.length<=l.length:=by
      have h1:=congrArg wu alQ;rw [cA] at h1;rcases hcase with ⟨_,hr9,_⟩ | ⟨_,_,hr9,_⟩
      ·rw [hr9] at h1;simp at h1;omega
      ·rw [hr9] at h1;simp at h1;omega
     obtain ⟨hstep,hpre⟩:=step_call (st:=st) (x:=x) hi (hcase.imp (λz=>⟨z.1,z.2.2⟩) λz=>⟨z.1,z.2.1,z.2.2.2⟩) (alS c bz);rcases hcase with ⟨hrw,hr9,hc⟩ | ⟨hrw,hxl,hr9,hc⟩
     ·rw [hrw,if_pos rfl];have h1:(iV l)[at_+1]? =some (V.int (x.length:Int)):=by
       have:(l.drop (at_+1))[0]? =some (x.length:Int):=by rw [alQ,hr9];rfl
       rw [v8,Ws] at this;rw [aW,this];rfl
      have ajz:l.drop (at_+2)=x++t:=by
       rw [show at_+2=at_+1+1 by omega,<-gO,alQ,hr9];rfl
      refine ⟨_,ha4,V.int (x.length:Int),at_of (j:=at_+1) (by omega) h1,?_⟩;refine cz (aL (lL 6 jb.nd (iG agv (bH T.Vh) (pv 4) (λ_ _=>rfl)))
   (bw (lL 7 jb.nd (hld (XF (n:=6) (k:=9) (hr.mono (by decide)) rfl (by first | exact dZ rfl | exact gF (dZ rfl)) (aq (pv 1) (aq (jF lF (pv 0) (gr (pv 3)) (gr (fC kW (pv 3) (pv 5)))) aG))))))) ?_;walk_at "rd"
      refine ⟨_,T.U4.sq,V.ref fi,fH (j:=i) ars,fi,rfl,_,hall i fi hfi,_,ha4,λp1 hp1=>?_⟩;have apF:ym (iV l) (some ((at_:Int)+1+1)) (some ((at_:Int)+1+1+(x.length:Int)))=iV x:=by
       have e1:((at_:Int)+1+1:Int)=((at_+2:Nat):Int):=by omega
       have e2:((at_:Int)+1+1+(x.length:Int):Int)=((at_+2+x.length:Nat):Int):=by omega
       rw [e2]
       conv=>lhs;rw [e1]
       rw [Ln,show at_+2+x.length - (at_+2)=x.length by omega];show ((l.map V.int).drop (at_+2)).take x.length=x.map V.int;rw [<-Af,ajz,<-uA,List.take_left]
      rw [apF];generalize e5:upd H4 p1 _=H5;obtain ⟨s5,Xi,_,h5⟩:=iz s4 hp1 e5;have hp5:=Xi _ _ h4;refine ⟨d,p1,st,S,x,rfl,hD.same Xi,λz=>hD.al p1 z hp1,h5,by omega,hpre,λD H6 S' hD6 hS6 Zz h6 nD hfr=>?_⟩;have hp6:=hfr _ _ hp5 nSp;rw [hstep] at htl;have hle:tl.length+1+(bC st (Ls i x)).2.length<=10000000:=by
       have:=congrArg wu htl;simp only [aJ,aH] at this;omega
      have nDp:D≠p:=λz=>by
       rw [z] at Zz;rcases Zz with y | y
       ·rw [hp5] at y;cases y
       ·exact nSp y
      walk_at "rd";refine cz (aL (Xo jb.nd rfl (dZ rfl) (pv 5) Yt (i:=3))
   (aL (jn (rM bY gR gQ uo (pv 2) (aq (cH cW rfl T.jG bI (aq (pv 7) aG)) aG)))
   (aK (jn (rM bY fj fc nA (pv 2) (aq (pv 7) aG)))))) ?_;walk_at "rd"
      refine ⟨.inl ⟨rfl,_,cY.of hp6⟩,_,.inl (cY.of h6),_,hp6,by rw [ao,sizeLine_eq];omega,.inl ⟨rfl,_,cY.of aD⟩,_,aD,_,by rw [aF nDp];exact h6,by rw [sizeLine_eq];simp only [aJ,ao,aH,bF];omega,?_⟩;have alT:¬S' p:=λz=>by
       rcases hS6 p z with y | y
       ·exact nSp y
       ·rw [hp5] at y;cases y
      refine ⟨at_+2+x.length,fu',cs',(bC st (Ls i x)).1,S',tl++(((bC st (Ls i x)).2.length:Int)::(bC st (Ls i x)).2),some (V.int (i:Int)),some (V.int (x.length:Int)),some (V.ref fi),some (V.ref D),?_,by omega,?_,?_,λc' hc'=>alS c' (aV _ hc'),hD6.keep λy o hy h=>?_,λy hy=>?_,alT,λy o h=>?_,?_,?_⟩
      ·rw [show ((at_+2+x.length:Nat):Int)=(at_:Int)+1+1+(x.length:Int) by omega]
      ·have:=congrArg wu alQ;rw [hr9,cA,aH,aJ] at this;omega
      ·rw [<-gO,ajz,List.drop_left];exact anw
      ·have ny:y≠p:=λz=>alT (z▸hy);rw [aF ny,aF ny];exact h
      ·rcases hS6 y hy with z | z
       ·exact hS y z
       ·exact same_none s5 z
      ·have ny:y≠p:=λz=>by rw [z,hp'] at h;cases h
       rw [aF ny,aF ny];refine hfr y o (s5 y o h) λz=>?_;rw [hS y z] at h;cases h
      ·rw [aD];simp
      ·rw [<-htl];simp
     ·rw [hrw,if_neg (by simp)];have ajz:l.drop (at_+1)=x++t:=by rw [alQ,hr9]
      refine cz (aL (lL 6 jb.nd (iG agv (bH T.Vh) (pv 4) (λ_ _=>rfl)))
   (bw (lL 7 jb.nd (hld (XF (n:=6) (k:=9) (hr.mono (by decide)) rfl (by first | exact dZ rfl | exact gF (dZ rfl)) (aq (pv 1) (aq (jF lF (pv 0) (gr (pv 3)) (gr (fC kW (pv 3) (pv 5)))) aG))))))) ?_;walk_at "rd"
      refine ⟨_,T.U4.sq,V.ref fi,fH (j:=i) ars,fi,rfl,_,hall i fi hfi,_,ha4,λp1 hp1=>?_⟩;have apF:ym (iV l) (some ((at_:Int)+1)) (some ((at_:Int)+1+(yF i:Int)))=iV x:=by
       have e1:((at_:Int)+1:Int)=((at_+1:Nat):Int):=by omega
       have e2:((at_:Int)+1+(yF i:Int):Int)=((at_+1+x.length:Nat):Int):=by omega
       rw [e2]
       conv=>lhs;rw [e1]
       rw [Ln,show at_+1+x.length - (at_+1)=x.length by omega];show ((l.map V.int).drop (at_+1)).take x.length=x.map V.int;rw [<-Af,ajz,<-uA,List.take_left]
      rw [apF];generalize e5:upd H4 p1 _=H5;obtain ⟨s5,Xi,_,h5⟩:=iz s4 hp1 e5;have hp5:=Xi _ _ h4;refine ⟨d,p1,st,S,x,rfl,hD.same Xi,λz=>hD.al p1 z hp1,h5,by omega,hpre,λD H6 S' hD6 hS6 Zz h6 nD hfr=>?_⟩;have hp6:=hfr _ _ hp5 nSp;rw [hstep] at htl;have hle:tl.length+1+(bC st (Ls i x)).2.length<=10000000:=by
       have:=congrArg wu htl;simp only [aJ,aH] at this;omega
      have nDp:D≠p:=λz=>by
       rw [z] at Zz;rcases Zz with y | y
       ·rw [hp5] at y;cases y
       ·exact nSp y
      walk_at "rd";refine cz (aL (Xo jb.nd rfl (dZ rfl) (pv 5) Yt (i:=3))
   (aL (jn (rM bY gR gQ uo (pv 2) (aq (cH cW rfl T.jG bI (aq (pv 7) aG)) aG)))
   (aK (jn (rM bY fj fc nA (pv 2) (aq (pv 7) aG)))))) ?_;walk_at "rd"
      refine ⟨.inl ⟨rfl,_,cY.of hp6⟩,_,.inl (cY.of h6),_,hp6,by rw [ao,sizeLine_eq];omega,.inl ⟨rfl,_,cY.of aD⟩,_,aD,_,by rw [aF nDp];exact h6,by rw [sizeLine_eq];simp only [aJ,ao,aH,bF];omega,?_⟩;have alT:¬S' p:=λz=>by
       rcases hS6 p z with y | y
       ·exact nSp y
       ·rw [hp5] at y;cases y
      refine ⟨at_+1+x.length,fu',cs',(bC st (Ls i x)).1,S',tl++(((bC st (Ls i x)).2.length:Int)::(bC st (Ls i x)).2),some (V.int (i:Int)),some (V.int (yF i:Int)),some (V.ref fi),some (V.ref D),?_,by omega,?_,?_,λc' hc'=>alS c' (aV _ hc'),hD6.keep λy o hy h=>?_,λy hy=>?_,alT,λy o h=>?_,?_,?_⟩
      ·rw [show ((at_+1+x.length:Nat):Int)=(at_:Int)+1+(yF i:Int) by omega]
      ·have:=congrArg wu ajz;rw [cA,aJ] at this;omega
      ·rw [<-gO,ajz,List.drop_left];exact anw
      ·have ny:y≠p:=λz=>alT (z▸hy);rw [aF ny,aF ny];exact h
      ·rcases hS6 y hy with z | z
       ·exact hS y z
       ·exact same_none s5 z
      ·have ny:y≠p:=λz=>by rw [z,hp'] at h;cases h
       rw [aF ny,aF ny];refine hfr y o (s5 y o h) λz=>?_;rw [hS y z] at h;cases h
      ·rw [aD];simp
      ·rw [<-htl];simp
  ·rw [if_neg (by omega)];have:at_=l.length:=by omega
   rw [this,List.drop_length] at hcs;have hcs:cs=[]:=by
    cases fu<;>exact (aB hcs).symm
   rw [hcs] at htl;refine cz (aK (bB (pv 2))) ?_;walk_at "rd";refine q H4 p ?_;rw [h4,<-htl];simp [Ad,Jg]))
theorem anR(T:Txt P w K mg A)(i:Nat)(f:Addr)(h:(amo A)[i]? =some f):anW P w K mg base 9 f (pH A (Ls i) (aoS i)):=(by apply aj:aa (by
 match i,h with
 |0,h=>cases h;exact ⟨T.wX.kp,_,_,(ai7 T).mono (by decide),T.Ej⟩
 |1,h=>cases h;exact ⟨T.zu.kp,_,_,(ali T).mono (by decide),T.Ip⟩
 |2,h=>cases h;exact ⟨T.sV.kp,_,_,(aen T).mono (by decide),T.yL⟩
 |3,h=>cases h;exact ⟨T.uN.kp,_,_,(agj T).mono (by decide),T.Cj⟩
 |4,h=>cases h;exact ⟨T.sW.kp,_,_,(aeo T).mono (by decide),T.yM⟩
 |5,h=>cases h;exact ⟨T.qN.kp,_,_,(acv T).mono (by decide),T.wO⟩
 |6,h=>cases h;exact ⟨T.uK.kp,_,_,(agg T).mono (by decide),T.Ce⟩
 |7,h=>cases h;exact ⟨T.wY.kp,_,_,(ai8 T).mono (by decide),T.Ek⟩
 |8,h=>cases h;exact ⟨T.uL.kp,_,_,(agh T).mono (by decide),T.Cg⟩
 |9,h=>cases h;exact ⟨T.qM.kp,_,_,(acu T).mono (by decide),T.wN⟩
 |10,h=>cases h;exact ⟨T.uI.kp,_,_,(age T).mono (by decide),T.Ca⟩
 |11,h=>cases h;exact ⟨T.zr.kp,_,_,(alh T).mono (by decide),T.Io⟩
 |12,h=>cases h;exact ⟨T.uH.kp,_,_,(agd T).mono (by decide),T.BZ⟩
 |13,h=>cases h;exact ⟨T.pJ.kp,_,_,(ai6 T).mono (by decide),T.vP⟩
 |14,h=>cases h;exact ⟨T.uJ.kp,_,_,(agf T).mono (by decide),T.Cd⟩
 |15,h=>cases h;exact ⟨T.uM.kp,_,_,(agi T).mono (by decide),T.Ci⟩
 |i+16,h=>simp [amo] at h))
theorem akN(T:Txt P w K mg A):fU P w K mg base mU 10 A.Nz A.t8 Fq (GK K):=agc T (anR T)
theorem yH{α:Type}{P:List α->Prop}(h:∀a,P [a]):∀us:List α,us.length=1->P us
 |[a],_=>h a
theorem rN{α:Type}{P:List α->Prop}(h:∀a b,P [a,b]):∀us:List α,us.length=2->P us
 |[a,b],_=>h a b
theorem Og{α:Type}{P:List α->Prop}(h:∀a b c,P [a,b,c]):∀us:List α,us.length=3->P us
 |[a,b,c],_=>h a b c
theorem ao5{α:Type}{P:List α->Prop}(h:∀a b c d,P [a,b,c,d]):∀us:List α,us.length=4->P us
 |[a,b,c,d],_=>h a b c d
theorem cR{h:Heap}(X:K.In h)(x qual:Str)(st:Stmt)(f:Addr)(ps:List Str){oc:Value}{od an:Option Addr}{osl:Array (Option Value)}{kV doc pm cdv ct:Value}(b:∀(kV doc pm:Value) (an:Option Addr) (cdv ct:Value) (us:List Value),us.length=ps.length->bindArgs (tO x qual (NB st) (Ib st) (aX st) .none kV doc pm an cdv ct) ⟨us,[]⟩=pure (ps.zip us))(l:K.lookup f=some ⟨oc,od,.func (tO x qual (NB st) (Ib st) (aX st) .none kV doc pm an cdv ct),osl⟩:=by k_is)(c:QQ K cdv qual=true:=by k_is)(k:lW K (.ref f)=true:=by k_is):
  ∃fd:FuncData,nQ K x qual st f fd/\Binds K fd ps []:=⟨_,ama l c k,(ama l c k).binds b⟩
theorem Uk{h:Heap}(X:K.In h)(C:Addr)(pg:yZ K C Str.empty=true:=by k_is)(hd:Jf K C=true:=by k_is)(po:Wn K C=true:=by k_is)(sa:ik K (.ref C) "__setattr__"=some (some (.builtin "object.__setattr__")):=by k_is):Cls K C:=⟨pg,hd,po,sa⟩
theorem aa2{h:Heap}(X:K.In h)(C f:Addr)(a:abw K C=true:=by k_is)(b:ik K (.ref C) "__init__"=some (some (.ref f)):=by k_is)(c:Oa K (.ref f)=true:=by k_is)(d:lW K (.ref C)=true:=by k_is):Mk K C f:=⟨a,b,c,d⟩
theorem Df{h:Heap}(X:K.In h)(C f:Addr)(m:Str)(a:ik K (.ref C) m=some (some (.ref f)):=by k_is)(b:Oa K (.ref f)=true:=by k_is)(c:lW K (.ref f)=true:=by k_is):Meth K C m f:=⟨a,b,c⟩
theorem jg{h:Heap}(X:K.In h)(C:Addr)(m:Str)(a:ik K (.ref C) m=some none:=by k_is):iK K C m:=a
theorem dh{h:Heap}(X:K.In h)(G:h.Ns mainGlobals mg)(x:Str)(a:Addr)(e:N8 K mainGlobals x=some (some (.ref a)):=by k_is):mg x=some (.ref a):=UJ X G e
theorem tZ{h:Heap}(X:K.In h)(G:h.Ns mainGlobals mg)(x:Str)(e:N8 K mainGlobals x=some none:=by k_is):mg x=none:=PySem.W.mg_none_of X G e
theorem int_at{h:Heap}(X:K.In h)(G:h.Ns mainGlobals mg)(x:Str)(i:Int){t:Tok}(e:N8 K mainGlobals x=some (some (.int i t)):=by k_is):GV mg x (.int i):=⟨_,UJ X G e,t,rfl⟩
theorem W4{h:Heap}(X:K.In h)(G:h.Ns mainGlobals mg)(x y:Str){t:Tok}(e:N8 K mainGlobals x=some (some (.str y t)):=by k_is):GV mg x (.str y):=⟨_,UJ X G e,t,rfl⟩
theorem yq{h:Heap}(X:K.In h)(G:h.Ns mainGlobals mg)(x:Str)(a:Addr)(e:N8 K mainGlobals x=some (some (.ref a)):=by k_is):GV mg x (.ref a):=⟨_,UJ X G e,rfl⟩
theorem nT{h:Heap}(X:K.In h)(a:Addr)(xs:List V){its:Array Value}{n:Nat}{sl:Array (Option Value)}(e:K.lookup a=some ⟨.type "tuple",none,.seq its n,sl⟩)(z:its.size<=sizeLine)(v:Vals xs its.toList):KT K a xs:=
 ⟨_,its,n,e,rfl,rfl,rfl,z,v⟩
noncomputable def ent (p:Params) (e:Str×Tok×Value):DictEntry:={hash:=PyData.keyHash p e.1,key:=.str e.1 e.2.1,val:=e.2.2}
theorem abd:∀xs:List (Str×Tok×Value),Pairs (fY P w) (xs.map (ent w.params)) (xs.map λe=>((bW e.1:Key),e.2.2))
 |[]=>.nil
 |e::xs=>.cons (by show Ac e.1 (.str e.1 e.2.1)=true;simp [Ac]) rfl (abd xs)
theorem acS{h:Heap}(X:K.In h)(a:Addr)(kvs:List (Key×V))(xs:List (Str×Tok×Value)){ep:Nat}(e:K.lookup a=some ⟨.type "dict",none,.dict (xs.map (ent w.params)).toArray ep,#[]⟩)(nd:(xs.map λe=>((bW e.1:Key))).Nodup)(kv:KV kvs (xs.map λe=>((bW e.1:Key),e.2.2)))(ha:(a==sysModules)=false):KD P w K a kvs:=by
 refine ⟨_,_,ep,_,e,⟨rfl,rfl,rfl⟩,rfl,?_,abd xs,?_,kv,ha⟩
 ·intro y hy;rw [List.mem_toArray] at hy;obtain ⟨z,hz,rfl⟩:=cF.mp hy;exact ⟨.inr z.1,by show Ac z.1 (.str z.1 z.2.1)=true;simp [Ac],rfl⟩
 ·rw [cG];exact nd
end
end
section
open PySem PySem.W PyProof.Rows
theorem afG(K:Frag)(H:L2.Hp)(xs:List L2.V)(a:Cw bD.args)(hO:L2.abr H)(hwi:abz bD.args a=true)(aeR:J0 bD.args bD.asked a=true)(hx:L2.Gk K H xs (xQ bD.args a)):
  L2.Tb.GK K xs H (λv H'=>L2.Dw K H' v (bD.ret.enc (J0 bD.args bD.f a))) λ_ _ _=>False:=(by apply aj:aa (by
 cases hx with
 |cons h1 h2=>
  cases h2;cases h1 with
  |lst hs ha=>
   have e:=L2.ahY a.1 _ ha;subst e;have q:((Codec.inLen 0 16000 a.1&&a.1.all (Codec.inInt (Int.negSucc 999999999999999999) (Int.ofNat 1000000000000000000)))&&true)=true:=hwi;rw [bf,bf] at q;exact ⟨_,a.1,rfl,hs,(Codec.inNat_iff.mp q.1.1).2,aeR,λH' p hp=>.lst (L2.cY.of hp) (L2.aic _)⟩))
end
end L2.Tb
end
namespace L2.Tb
open PySem PySem.Spec PyProof.Rows
theorem ady{K:az}{f:Addr}{fd:FuncData}(F:nQ K "answers" "answers" M4 f fd)(s:Shared)(us:List Value)(hu:us.length=(["calls"]:List Str).length):BindsTo s fd ⟨us,[]⟩ ((["calls"]:List Str).zip us):=by
 obtain ⟨oc,od,kV,doc,pm,an,cdv,ct,osl,rfl,lk,hcd⟩:=F.ex;exact match us,hu with | [_],_=>.of_eq rfl
end L2.Tb
open PySem PySem.W PyProof.Rows L2 L2.Tb
set_option maxRecDepth 100000 in
set_option maxHeartbeats 0 in
theorem PySem.Challenge.cw_tonnebook_s01_answers_holds : PySem.Challenge.rw_tonnebook_s01_answers.Holds := by
 refine Hd0.2 ?_;unfold Hd0;dsimp only
 k_fillS
 refine L2.afH (r:=bD) (k:=10) (CX:=L2.mU) (ps:=["calls"]) (sp:=L2.Tb.GK) (by decide+kernel) rfl rfl ⟨rfl,by decide,by decide⟩ (λw h Y=>PySem.W.kIn_of Y) ?F ?S (λ_ _ _ _ z=>z)
 case F=>
  intro w mg fa h Y KX G hmg;obtain ⟨sG,Gz,Iu⟩:=cR KX "__init__" "Place.__init__" Hf 29 zR λ_ _ _ _ _ _=>ao5 λ_ _ _ _=>rfl;obtain ⟨sH,GC,Aa⟩:=cR KX "gain" "Place.gain" zF 34 zT λ_ _ _ _ _ _=>rN λ_ _=>rfl;obtain ⟨sE,Gy,Ir⟩:=cR KX "lose" "Place.lose" zE 39 zQ λ_ _ _ _ _ _=>rN λ_ _=>rfl;obtain ⟨mz,wC,wQ⟩:=cR KX "has_less" "Place.has_less" qP 44 qT λ_ _ _ _ _ _=>rN λ_ _=>rfl;obtain ⟨vI,J6,Dn⟩:=cR KX "row" "Place.row" Kh 51 CZ λ_ _ _ _ _ _=>yH λ_=>rfl;obtain ⟨vJ,J7,LC⟩:=cR KX "__init__" "Move.__init__" Kl 72 Dc λ_ _ _ _ _ _=>ao5 λ_ _ _ _=>rfl;obtain ⟨jH,pZ,qH⟩:=cR KX "place_numbers" "Move.place_numbers" qb 79 lZ λ_ _ _ _ _ _=>yH λ_=>rfl;obtain ⟨qu,DG,El⟩:=cR KX "__init__" "Record.__init__" DX 100 xx λ_ _ _ _ _ _=>Og λ_ _ _=>rfl;obtain ⟨sI,GD,Iv⟩:=cR KX "__init__" "Books.__init__" Hg 121 zU λ_ _ _ _ _ _=>yH λ_=>rfl;obtain ⟨kI,tU,lD⟩:=cR KX "place_rows" "Books.place_rows" tY 128 ou λ_ _ _ _ _ _=>yH λ_=>rfl;obtain ⟨Bq,Fg,N5⟩:=cR KX "text_of" "text_of" Fl 140 M7 λ_ _ _ _ _ _=>yH λ_=>rfl;obtain ⟨yd,Gr,Qu⟩:=cR KX "words_of" "words_of" GZ 145 Hk λ_ _ _ _ _ _=>yH λ_=>rfl;obtain ⟨Br,Mv,Uq⟩:=cR KX "is_name" "is_name" MT 150 M8 λ_ _ _ _ _ _=>yH λ_=>rfl;obtain ⟨rY,uG,zZ⟩:=cR KX "is_numeral" "is_numeral" zA 155 zM λ_ _ _ _ _ _=>yH λ_=>rfl;obtain ⟨oO,uD,BW⟩:=cR KX "wanted_parts" "wanted_parts" Ay 173 uX λ_ _ _ _ _ _=>Og λ_ _ _=>rfl;obtain ⟨RT,abA,agU⟩:=cR KX "fits" "fits" afX 180 acn λ_ _ _ _ _ _=>rN λ_ _=>rfl;obtain ⟨rW,zm,Ik⟩:=cR KX "is_of_form" "is_of_form" zy 185 zL λ_ _ _ _ _ _=>Og λ_ _ _=>rfl;obtain ⟨ph,pY,vQ⟩:=cR KX "above_limits" "above_limits" uR 196 vo λ_ _ _ _ _ _=>yH λ_=>rfl;obtain ⟨La,MJ,R8⟩:=cR KX "carry" "carry" ab1 203 Wc λ_ _ _ _ _ _=>ao5 λ_ _ _ _=>rfl;obtain ⟨Bs,Mw,Ur⟩:=cR KX "do_user" "do_user" Tw 210 M9 λ_ _ _ _ _ _=>Og λ_ _ _=>rfl;obtain ⟨yj,Gw,Qy⟩:=cR KX "do_metal" "do_metal" Qa 217 Hq λ_ _ _ _ _ _=>Og λ_ _ _=>rfl;obtain ⟨yh,Gv,Qx⟩:=cR KX "do_place" "do_place" P0 224 Ho λ_ _ _ _ _ _=>Og λ_ _ _=>rfl;obtain ⟨rZ,zq,Im⟩:=cR KX "do_opening" "do_opening" G9 231 zN λ_ _ _ _ _ _=>Og λ_ _ _=>rfl;obtain ⟨Bv,Mz,Uu⟩:=cR KX "do_move" "do_move" M3 236 Ng λ_ _ _ _ _ _=>Og λ_ _ _=>rfl;obtain ⟨Bt,Mx,Us⟩:=cR KX "do_ship" "do_ship" Tz 243 Nb λ_ _ _ _ _ _=>Og λ_ _ _=>rfl;obtain ⟨Bw,MF,Uv⟩:=cR KX "do_back" "do_back" TJ 250 Nh λ_ _ _ _ _ _=>Og λ_ _ _=>rfl;obtain ⟨yl,Gx,Qz⟩:=cR KX "do_close" "do_close" Qc 257 Hr λ_ _ _ _ _ _=>Og λ_ _ _=>rfl;obtain ⟨uq,Gu,Qw⟩:=cR KX "do_scale" "do_scale" PX 264 Bj λ_ _ _ _ _ _=>Og λ_ _ _=>rfl;obtain ⟨Bu,My,Ut⟩:=cR KX "do_note" "do_note" TF 271 Nf λ_ _ _ _ _ _=>Og λ_ _ _=>rfl;obtain ⟨vD,CG,Lx⟩:=cR KX "may_speak" "may_speak" Kf 279 CT λ_ _ _ _ _ _=>rN λ_ _=>rfl;obtain ⟨lg,zp,Il⟩:=cR KX "do_payload" "do_payload" zB 284 oh λ_ _ _ _ _ _=>Og λ_ _ _=>rfl;obtain ⟨Ge,Fi,Lw⟩:=cR KX "sum_of" "sum_of" Ri 289 Rm λ_ _ _ _ _ _=>yH λ_=>rfl;obtain ⟨vH,xW,Dl⟩:=cR KX "digits_of" "digits_of" CN 294 CW λ_ _ _ _ _ _=>rN λ_ _=>rfl;obtain ⟨Bp,Mu,Up⟩:=cR KX "written" "written" Tv 301 M6 λ_ _ _ _ _ _=>yH λ_=>rfl;obtain ⟨nG,oJ,tM⟩:=cR KX "may_be_digits" "may_be_digits" sY 306 tu λ_ _ _ _ _ _=>yH λ_=>rfl;obtain ⟨vC,xV,Dk⟩:=cR KX "number_of" "number_of" Ke 313 CQ λ_ _ _ _ _ _=>yH λ_=>rfl;obtain ⟨Gf,Fj,Ly⟩:=cR KX "may_be" "may_be" Xh 320 Rn λ_ _ _ _ _ _=>Og λ_ _ _=>rfl;obtain ⟨vG,CJ,Lz⟩:=cR KX "length_at" "length_at" Kg 327 CV λ_ _ _ _ _ _=>rN λ_ _=>rfl;obtain ⟨rR,uF,zY⟩:=cR KX "record_end" "record_end" G4 334 zH λ_ _ _ _ _ _=>rN λ_ _=>rfl;obtain ⟨pA,Aw,vU⟩:=cR KX "__init__" "Journal.__init__" Bh 348 vy λ_ _ _ _ _ _=>yH λ_=>rfl;obtain ⟨pq,Av,vR⟩:=cR KX "take" "Journal.take" Bg 355 vq λ_ _ _ _ _ _=>rN λ_ _=>rfl;obtain ⟨jT,rn,rE⟩:=cR KX "do_record" "Journal.do_record" rB 362 mR λ_ _ _ _ _ _=>rN λ_ _=>rfl;obtain ⟨rU,nR,qW⟩:=cR KX "journal_of" "journal_of" G8 376 zK λ_ _ _ _ _ _=>yH λ_=>rfl;obtain ⟨yg,Gs,Qv⟩:=cR KX "moves_of" "moves_of" G6 381 Hn λ_ _ _ _ _ _=>rN λ_ _=>rfl;obtain ⟨YK,ahs,aml⟩:=cR KX "way" "way" ak7 388 ahL λ_ _ _ _ _ _=>rN λ_ _=>rfl;obtain ⟨yf,Ar,Ii⟩:=cR KX "net_into" "net_into" G5 393 Hm λ_ _ _ _ _ _=>Og λ_ _ _=>rfl;obtain ⟨rQ,zg,Ih⟩:=cR KX "royalty_on" "royalty_on" G3 400 zG λ_ _ _ _ _ _=>rN λ_ _=>rfl;obtain ⟨qj,wU,Eh⟩:=cR KX "place_state" "place_state" DP 407 xm λ_ _ _ _ _ _=>rN λ_ _=>rfl;obtain ⟨rT,zj,Ij⟩:=cR KX "move_state" "move_state" G7 414 zJ λ_ _ _ _ _ _=>yH λ_=>rfl;obtain ⟨oR,uE,BX⟩:=cR KX "record_state" "record_state" Az 421 uY λ_ _ _ _ _ _=>yH λ_=>rfl;obtain ⟨qm,wW,Ei⟩:=cR KX "books_state" "books_state" rK 426 xq λ_ _ _ _ _ _=>yH λ_=>rfl;obtain ⟨ye,Aq,Ig⟩:=cR KX "state_of" "state_of" PQ 433 Hl λ_ _ _ _ _ _=>yH λ_=>rfl;obtain ⟨vK,J8,LK⟩:=cR KX "__init__" "Desk.__init__" Km 447 Dd λ_ _ _ _ _ _=>yH λ_=>rfl;obtain ⟨lB,iB,jr⟩:=cR KX "is_row_of_bytes" "is_row_of_bytes" pL 459 pN λ_ _ _ _ _ _=>yH λ_=>rfl;obtain ⟨K9,zf,Dj⟩:=cR KX "truth" "truth" ab0 466 Wb λ_ _ _ _ _ _=>yH λ_=>rfl;obtain ⟨qp,wX,Ej⟩:=cR KX "answer_feed" "answer_feed" DR 473 xr λ_ _ _ _ _ _=>rN λ_ _=>rfl;obtain ⟨su,zu,Ip⟩:=cR KX "answer_cut" "answer_cut" Hd 480 zP λ_ _ _ _ _ _=>rN λ_ _=>rfl;obtain ⟨nJ,sV,yL⟩:=cR KX "answer_status" "answer_status" yC 487 tD λ_ _ _ _ _ _=>rN λ_ _=>rfl;obtain ⟨o9,uN,Cj⟩:=cR KX "answer_bytes" "answer_bytes" Bf 494 vm λ_ _ _ _ _ _=>rN λ_ _=>rfl;obtain ⟨nM,sW,yM⟩:=cR KX "answer_record" "answer_record" yD 501 tE λ_ _ _ _ _ _=>rN λ_ _=>rfl;obtain ⟨my,qN,wO⟩:=cR KX "answer_balance" "answer_balance" wI 508 qR λ_ _ _ _ _ _=>rN λ_ _=>rfl;obtain ⟨ql,rH,xH⟩:=cR KX "place_named" "place_named" DQ 515 xn λ_ _ _ _ _ _=>rN λ_ _=>rfl;obtain ⟨oX,uK,Ce⟩:=cR KX "answer_place" "answer_place" Bc 522 vf λ_ _ _ _ _ _=>rN λ_ _=>rfl;obtain ⟨qt,wY,Ek⟩:=cR KX "answer_asof" "answer_asof" DW 529 xu λ_ _ _ _ _ _=>rN λ_ _=>rfl;obtain ⟨nF,oH,tL⟩:=cR KX "month_refusal" "month_refusal" yz 536 sZ λ_ _ _ _ _ _=>rN λ_ _=>rfl;obtain ⟨oY,uL,Cg⟩:=cR KX "answer_month" "answer_month" Bd 543 vg λ_ _ _ _ _ _=>rN λ_ _=>rfl;obtain ⟨mq,qM,wN⟩:=cR KX "answer_royalty" "answer_royalty" wH 550 qQ λ_ _ _ _ _ _=>rN λ_ _=>rfl;obtain ⟨oV,uI,Ca⟩:=cR KX "answer_users" "answer_users" uP 555 u9 λ_ _ _ _ _ _=>rN λ_ _=>rfl;obtain ⟨sr,zr,Io⟩:=cR KX "answer_sum" "answer_sum" Hc 562 zO λ_ _ _ _ _ _=>rN λ_ _=>rfl;obtain ⟨oU,uH,BZ⟩:=cR KX "answer_write" "answer_write" Ba 569 uZ λ_ _ _ _ _ _=>rN λ_ _=>rfl;obtain ⟨lC,pJ,vP⟩:=cR KX "answer_standing" "answer_standing" uQ 576 pO λ_ _ _ _ _ _=>rN λ_ _=>rfl;obtain ⟨oW,uJ,Cd⟩:=cR KX "answer_trail" "answer_trail" Bb 583 vd λ_ _ _ _ _ _=>rN λ_ _=>rfl;obtain ⟨oZ,uM,Ci⟩:=cR KX "answer_check" "answer_check" Be 590 vh λ_ _ _ _ _ _=>rN λ_ _=>rfl;obtain ⟨t8,MK,abp⟩:=cR KX "answers" "answers" M4 600 Fq λ_ _ _ _ _ _=>yH λ_=>rfl;have Ud:=dh KX G "answers" 600;have T:Txt bD.prog w _ mg ⟨54,82,103,131,365,450,29,sG,34,sH,39,sE,44,mz,51,vI,72,vJ,79,jH,100,qu,121,sI,128,kI,140,Bq,145,yd,150,Br,155,rY,173,oO,180,RT,185,rW,196,ph,203,La,210,Bs,217,yj,224,yh,231,rZ,236,Bv,243,Bt,250,Bw,257,yl,264,uq,271,Bu,279,vD,284,lg,289,Ge,294,vH,301,Bp,306,nG,313,vC,320,Gf,327,vG,334,rR,348,pA,355,pq,362,jT,376,rU,381,yg,388,YK,393,yf,400,rQ,407,qj,414,rT,421,oR,426,qm,433,ye,447,vK,459,lB,466,K9,473,qp,480,su,487,nJ,494,o9,501,nM,508,my,515,ql,522,oX,529,qt,536,nF,543,oY,550,mq,555,oV,562,sr,569,oU,576,lC,583,oW,590,oZ,600,t8,15,156,157,158,159,160,161,162,163,164,165,166,186,187,188,189,190,191,272,591,592,593⟩:=⟨Uk KX 54,aa2 KX 54 29,dh KX G "Place" 54,jg KX 54 "number",jg KX 54 "kind",jg KX 54 "opened",jg KX 54 "amounts",Uk KX 82,aa2 KX 82 72,dh KX G "Move" 82,jg KX 82 "source",jg KX 82 "target",jg KX 82 "amounts",Uk KX 103,aa2 KX 103 100,dh KX G "Record" 103,jg KX 103 "end",jg KX 103 "month",jg KX 103 "user",jg KX 103 "code",jg KX 103 "taken_back",jg KX 103 "move",Uk KX 131,aa2 KX 131 121,dh KX G "Books" 131,jg KX 131 "users",jg KX 131 "metals",jg KX 131 "places",jg KX 131 "month",jg KX 131 "scale",jg KX 131 "records",Uk KX 365,aa2 KX 365 348,dh KX G "Journal" 365,jg KX 365 "taken",jg KX 365 "settled",jg KX 365 "broken",jg KX 365 "books",Uk KX 450,aa2 KX 450 447,dh KX G "Desk" 450,jg KX 450 "journal",(show (54:Nat)≠82 by decide),(show (54:Nat)≠103 by decide),(show (54:Nat)≠131 by decide),(show (54:Nat)≠365 by decide),(show (54:Nat)≠450 by decide),(show (82:Nat)≠103 by decide),(show (82:Nat)≠131 by decide),(show (82:Nat)≠365 by decide),(show (82:Nat)≠450 by decide),(show (103:Nat)≠131 by decide),(show (103:Nat)≠365 by decide),(show (103:Nat)≠450 by decide),(show (131:Nat)≠365 by decide),(show (131:Nat)≠450 by decide),(show (365:Nat)≠450 by decide),Gz,Iu,GC,Aa,Df KX 54 34 "gain",Gy,Ir,Df KX 54 39 "lose",wC,wQ,Df KX 54 44 "has_less",J6,Dn,Df KX 54 51 "row",J7,LC,pZ,qH,Df KX 82 79 "place_numbers",DG,El,GD,Iv,tU,lD,Df KX 131 128 "place_rows",Fg,N5,dh KX G "text_of" 140,Gr,Qu,dh KX G "words_of" 145,Mv,Uq,dh KX G "is_name" 150,uG,zZ,dh KX G "is_numeral" 155,uD,BW,dh KX G "wanted_parts" 173,abA,agU,dh KX G "fits" 180,zm,Ik,dh KX G "is_of_form" 185,pY,vQ,dh KX G "above_limits" 196,MJ,R8,dh KX G "carry" 203,Mw,Ur,dh KX G "do_user" 210,Gw,Qy,dh KX G "do_metal" 217,Gv,Qx,dh KX G "do_place" 224,zq,Im,dh KX G "do_opening" 231,Mz,Uu,dh KX G "do_move" 236,Mx,Us,dh KX G "do_ship" 243,MF,Uv,dh KX G "do_back" 250,Gx,Qz,dh KX G "do_close" 257,Gu,Qw,dh KX G "do_scale" 264,My,Ut,dh KX G "do_note" 271,CG,Lx,dh KX G "may_speak" 279,zp,Il,dh KX G "do_payload" 284,Fi,Lw,dh KX G "sum_of" 289,xW,Dl,dh KX G "digits_of" 294,Mu,Up,dh KX G "written" 301,oJ,tM,dh KX G "may_be_digits" 306,xV,Dk,dh KX G "number_of" 313,Fj,Ly,dh KX G "may_be" 320,CJ,Lz,dh KX G "length_at" 327,uF,zY,dh KX G "record_end" 334,Aw,vU,Av,vR,Df KX 365 355 "take",rn,rE,Df KX 365 362 "do_record",nR,qW,dh KX G "journal_of" 376,Gs,Qv,dh KX G "moves_of" 381,ahs,aml,dh KX G "way" 388,Ar,Ii,dh KX G "net_into" 393,zg,Ih,dh KX G "royalty_on" 400,wU,Eh,dh KX G "place_state" 407,zj,Ij,dh KX G "move_state" 414,uE,BX,dh KX G "record_state" 421,wW,Ei,dh KX G "books_state" 426,Aq,Ig,dh KX G "state_of" 433,J8,LK,iB,jr,dh KX G "is_row_of_bytes" 459,zf,Dj,dh KX G "truth" 466,wX,Ej,dh KX G "answer_feed" 473,zu,Ip,dh KX G "answer_cut" 480,sV,yL,dh KX G "answer_status" 487,uN,Cj,dh KX G "answer_bytes" 494,sW,yM,dh KX G "answer_record" 501,qN,wO,dh KX G "answer_balance" 508,rH,xH,dh KX G "place_named" 515,uK,Ce,dh KX G "answer_place" 522,wY,Ek,dh KX G "answer_asof" 529,oH,tL,dh KX G "month_refusal" 536,uL,Cg,dh KX G "answer_month" 543,qM,wN,dh KX G "answer_royalty" 550,uI,Ca,dh KX G "answer_users" 555,zr,Io,dh KX G "answer_sum" 562,uH,BZ,dh KX G "answer_write" 569,pJ,vP,dh KX G "answer_standing" 576,uJ,Cd,dh KX G "answer_trail" 583,uM,Ci,dh KX G "answer_check" 590,MK,abp,Ud,int_at KX G "DONE" 0,int_at KX G "WRONG_SUM" 1,int_at KX G "WRONG_FORM" 2,int_at KX G "NO_USER" 3,int_at KX G "LOW_RANK" 4,int_at KX G "TOLD_ALREADY" 5,int_at KX G "NO_PLACE" 6,int_at KX G "NO_ROOM" 7,int_at KX G "TOO_LITTLE" 8,int_at KX G "WRONG_KIND" 9,int_at KX G "OUT_OF_LIMITS" 10,int_at KX G "NOT_NOW" 11,int_at KX G "OWN_RECORD" 12,yq KX G "KINDS" 15,nT KX 15 [.str "ground",.str "pile",.str "plant",.str "waste",.str "sold"] (by k_is) (by show 5<=sizeLine;decide) (.cons ⟨_,rfl⟩ (.cons ⟨_,rfl⟩ (.cons ⟨_,rfl⟩ (.cons ⟨_,rfl⟩ (.cons ⟨_,rfl⟩ .nil))))),W4 KX G "LETTERS" "abcdefghijklmnopqrstuvwxyz",W4 KX G "DIGITS" "0123456789",W4 KX G "BLANK_words" " ",W4 KX G "NOBODY" "-",W4 KX G "STRANGE" "?",int_at KX G "NAME_LENGTH" 8,int_at KX G "NUMERAL_LENGTH" 19,yq KX G "FORMS" 156,nT KX 157 [.str "name",.str "numeral"] (by k_is) (by show 2<=sizeLine;decide) (.cons ⟨_,rfl⟩ (.cons ⟨_,rfl⟩ .nil)),nT KX 158 [.str "name"] (by k_is) (by show 1<=sizeLine;decide) (.cons ⟨_,rfl⟩ .nil),nT KX 159 [.str "name",.str "kind"] (by k_is) (by show 2<=sizeLine;decide) (.cons ⟨_,rfl⟩ (.cons ⟨_,rfl⟩ .nil)),nT KX 160 [.str "name",.str "numeral",.str "each metal"] (by k_is) (by show 3<=sizeLine;decide) (.cons ⟨_,rfl⟩ (.cons ⟨_,rfl⟩ (.cons ⟨_,rfl⟩ .nil))),nT KX 161 [.str "name",.str "name",.str "numeral"] (by k_is) (by show 3<=sizeLine;decide) (.cons ⟨_,rfl⟩ (.cons ⟨_,rfl⟩ (.cons ⟨_,rfl⟩ .nil))),nT KX 162 [.str "name",.str "name",.str "numeral",.str "each metal"] (by k_is) (by show 4<=sizeLine;decide) (.cons ⟨_,rfl⟩ (.cons ⟨_,rfl⟩ (.cons ⟨_,rfl⟩ (.cons ⟨_,rfl⟩ .nil)))),nT KX 163 [.str "numeral"] (by k_is) (by show 1<=sizeLine;decide) (.cons ⟨_,rfl⟩ .nil),nT KX 164 [] (by k_is) (by show 0<=sizeLine;decide) .nil,nT KX 165 [.str "pairs"] (by k_is) (by show 1<=sizeLine;decide) (.cons ⟨_,rfl⟩ .nil),nT KX 166 [.str "anything"] (by k_is) (by show 1<=sizeLine;decide) (.cons ⟨_,rfl⟩ .nil),acS (P:=bD.prog) (w:=w) KX 156 [(.inr "user",.ref 157),(.inr "metal",.ref 158),(.inr "place",.ref 159),(.inr "open",.ref 160),(.inr "move",.ref 161),(.inr "ship",.ref 162),(.inr "back",.ref 163),(.inr "close",.ref 164),(.inr "scale",.ref 165),(.inr "note",.ref 166)] [("user",_,_),("metal",_,_),("place",_,_),("open",_,_),("move",_,_),("ship",_,_),("back",_,_),("close",_,_),("scale",_,_),("note",_,_)] (by k_is) (by decide+kernel) (.cons ⟨rfl,rfl⟩ (.cons ⟨rfl,rfl⟩ (.cons ⟨rfl,rfl⟩ (.cons ⟨rfl,rfl⟩ (.cons ⟨rfl,rfl⟩ (.cons ⟨rfl,rfl⟩ (.cons ⟨rfl,rfl⟩ (.cons ⟨rfl,rfl⟩ (.cons ⟨rfl,rfl⟩ (.cons ⟨rfl,rfl⟩ .nil)))))))))) (by decide),int_at KX G "MOST_USERS" 8,int_at KX G "MOST_METALS" 2,int_at KX G "MOST_PLACES" 12,int_at KX G "TOP_RANK" 3,int_at KX G "MOST_KILOGRAMS" 1000000000000,int_at KX G "MOST_MICROGRAMS" 1000000000000000000,int_at KX G "MOST_SCALE_NUMERALS" 12,int_at KX G "MOST_CENTS" 1000000000,yq KX G "OPENED_KINDS" 186,nT KX 186 [.str "ground",.str "pile"] (by k_is) (by show 2<=sizeLine;decide) (.cons ⟨_,rfl⟩ (.cons ⟨_,rfl⟩ .nil)),yq KX G "MOVE_SOURCES" 187,nT KX 187 [.str "ground",.str "pile"] (by k_is) (by show 2<=sizeLine;decide) (.cons ⟨_,rfl⟩ (.cons ⟨_,rfl⟩ .nil)),yq KX G "MOVE_TARGETS" 188,nT KX 188 [.str "pile",.str "plant",.str "waste"] (by k_is) (by show 3<=sizeLine;decide) (.cons ⟨_,rfl⟩ (.cons ⟨_,rfl⟩ (.cons ⟨_,rfl⟩ .nil))),yq KX G "SHIP_SOURCES" 189,nT KX 189 [.str "plant"] (by k_is) (by show 1<=sizeLine;decide) (.cons ⟨_,rfl⟩ .nil),yq KX G "SHIP_TARGETS" 190,nT KX 190 [.str "waste",.str "sold"] (by k_is) (by show 2<=sizeLine;decide) (.cons ⟨_,rfl⟩ (.cons ⟨_,rfl⟩ .nil)),yq KX G "RANKS" 191,acS (P:=bD.prog) (w:=w) KX 191 [(.inr "user",.int 3),(.inr "metal",.int 2),(.inr "place",.int 2),(.inr "open",.int 2),(.inr "back",.int 2),(.inr "close",.int 3),(.inr "scale",.int 3)] [("user",_,_),("metal",_,_),("place",_,_),("open",_,_),("back",_,_),("close",_,_),("scale",_,_)] (by k_is) (by decide+kernel) (.cons ⟨rfl,⟨_,rfl⟩⟩ (.cons ⟨rfl,⟨_,rfl⟩⟩ (.cons ⟨rfl,⟨_,rfl⟩⟩ (.cons ⟨rfl,⟨_,rfl⟩⟩ (.cons ⟨rfl,⟨_,rfl⟩⟩ (.cons ⟨rfl,⟨_,rfl⟩⟩ (.cons ⟨rfl,⟨_,rfl⟩⟩ .nil))))))) (by decide),yq KX G "COMMANDS" 272,acS (P:=bD.prog) (w:=w) KX 272 [(.inr "user",.ref 210),(.inr "metal",.ref 217),(.inr "place",.ref 224),(.inr "open",.ref 231),(.inr "move",.ref 236),(.inr "ship",.ref 243),(.inr "back",.ref 250),(.inr "close",.ref 257),(.inr "scale",.ref 264),(.inr "note",.ref 271)] [("user",_,_),("metal",_,_),("place",_,_),("open",_,_),("move",_,_),("ship",_,_),("back",_,_),("close",_,_),("scale",_,_),("note",_,_)] (by k_is) (by decide+kernel) (.cons ⟨rfl,rfl⟩ (.cons ⟨rfl,rfl⟩ (.cons ⟨rfl,rfl⟩ (.cons ⟨rfl,rfl⟩ (.cons ⟨rfl,rfl⟩ (.cons ⟨rfl,rfl⟩ (.cons ⟨rfl,rfl⟩ (.cons ⟨rfl,rfl⟩ (.cons ⟨rfl,rfl⟩ (.cons ⟨rfl,rfl⟩ .nil)))))))))) (by decide),int_at KX G "BLANK_journal" 32,int_at KX G "SHARP" 35,int_at KX G "LINE_END" 10,int_at KX G "ZERO" 48,int_at KX G "NINE" 57,int_at KX G "LENGTH_DIGITS" 6,int_at KX G "SUM_DIGITS" 5,int_at KX G "BEFORE_PAYLOAD" 7,int_at KX G "BEHIND_PAYLOAD" 7,int_at KX G "LONGEST_PAYLOAD" 200,int_at KX G "SUM_MODULUS" 65521,int_at KX G "PENDING" 0,int_at KX G "BROKEN" (-1),int_at KX G "KILOGRAMS_A_TONNE" 1000,int_at KX G "OUT_OF_RANGE" (-1),int_at KX G "IS_BROKEN" (-2),int_at KX G "TOO_LONG" (-3),int_at KX G "TOO_SHORT" (-4),int_at KX G "NO_SUCH_RECORD" (-5),int_at KX G "NO_SUCH_PLACE" (-6),int_at KX G "NOT_YET" (-7),int_at KX G "MOST_BYTES" 6000,int_at KX G "MOST_BYTES_SHOWN" 1000,int_at KX G "MOST_RECORDS" 1000,int_at KX G "LAST_MONTH" 1000,int_at KX G "HIGHEST_BYTE" 255,yq KX G "ANSWERERS" 591,nT KX 591 [.ref 473,.ref 480,.ref 487,.ref 494,.ref 501,.ref 508,.ref 522,.ref 529,.ref 543,.ref 550,.ref 555,.ref 562,.ref 569,.ref 576,.ref 583,.ref 590] (by k_is) (by show 16<=sizeLine;decide) (.cons rfl (.cons rfl (.cons rfl (.cons rfl (.cons rfl (.cons rfl (.cons rfl (.cons rfl (.cons rfl (.cons rfl (.cons rfl (.cons rfl (.cons rfl (.cons rfl (.cons rfl (.cons rfl .nil)))))))))))))))),yq KX G "PLAIN_ARGUMENTS" 592,nT KX 592 [.int 0,.int 1,.int 0,.int 2,.int 1,.int 0,.int 0,.int 1,.int 1,.int 1,.int 0,.int 0,.int 0,.int 0,.int 0,.int 0] (by k_is) (by show 16<=sizeLine;decide) (.cons ⟨_,rfl⟩ (.cons ⟨_,rfl⟩ (.cons ⟨_,rfl⟩ (.cons ⟨_,rfl⟩ (.cons ⟨_,rfl⟩ (.cons ⟨_,rfl⟩ (.cons ⟨_,rfl⟩ (.cons ⟨_,rfl⟩ (.cons ⟨_,rfl⟩ (.cons ⟨_,rfl⟩ (.cons ⟨_,rfl⟩ (.cons ⟨_,rfl⟩ (.cons ⟨_,rfl⟩ (.cons ⟨_,rfl⟩ (.cons ⟨_,rfl⟩ (.cons ⟨_,rfl⟩ .nil)))))))))))))))),yq KX G "ROWED" 593,nT KX 593 [.int 0,.int 6,.int 11,.int 12,.int 14] (by k_is) (by show 5<=sizeLine;decide) (.cons ⟨_,rfl⟩ (.cons ⟨_,rfl⟩ (.cons ⟨_,rfl⟩ (.cons ⟨_,rfl⟩ (.cons ⟨_,rfl⟩ .nil))))),tZ KX G "len",tZ KX G "any",tZ KX G "all",tZ KX G "zip",tZ KX G "enumerate",tZ KX G "sum",tZ KX G "max",tZ KX G "sorted",tZ KX G "set",tZ KX G "int",tZ KX G "ord",tZ KX G "dict",tZ KX G "min",tZ KX G "str",tZ KX G "list"⟩;have e:=hmg.symm.trans Ud;cases e;exact ⟨t8,λs us hu=>ady MK s us hu,λbase _ _=>akN T⟩
 case S=>exact afG
#print axioms PySem.Challenge.cw_tonnebook_s01_answers_holds
