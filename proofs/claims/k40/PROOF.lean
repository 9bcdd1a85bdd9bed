import PyProof.Rows.All
import Wide.All
import OpenK.AllK
import Wide.FinOn
import Lean
import PyProof.EqAt
import PyProof.EqKinds
import PyProof.TupleCall
import KE.KRevIter
import PyProof.ZipIter
import PyProof.MinMaxWalk
import PySem.Challenge.RW_ringfell_k40_whole_papers_bound_all
open PySem renaming wpAny_bind → Ew,Value → EB,wpAny_pure → EC,Shared → EG,sizeLine → ES,Program → EV,wpAny → E4,FuncData → Fi,World → Fm,model → Fq,wpAny_newObj_type → Ft,mainGlobals → Fx,Around → FN,codeAny_builtin → FR,starEach → FT,wpAny_call_entry → FX,wpAny_holding → F0,bootBuiltins → F1,wpAny_callSpecial?_slot → F7,wpAny_field → Gf,wpAny_truthy_bool → Gg,plainId_quiet → Gj,wpAny_seqItems → Gk,compareOp → Gw,mem_of_lookup → GC,wpAny_of_eq → GP,wpAny_pyIter_tuple → GS,wpAny_setField_rec → GU,wpAny_updateSeq → GX,wpAny_ite_split → GY,builtinLookup_eq_fast → G6,wpAny_tryCatch → G7,intItems → Hd,wpAny_mono → Hh,wpAny_pyIter_list → Hi,wpAny_attempt → Hz,isSubtype_type → HA,wpAny_rule → HC,wpAny_specialOf → HF,wpAny_isInstance → HK,wpAny_Call_Name_kw → HQ,wpAny_typeOf → HR,sizeLine_eq → HW,wpAny_letGo → HX,wpAny_passesOwn → Ie,typeLookup_type → Ig,rawInt → Ih,wpAny_forIn_list → IT,codeAny → IW,codeAny_mono → Jc,wpAny_standAt → Jj,tupleKind_room_in1 → Jk,richCompare_meets_room → Jm,backTo → Jn,wpAny_pyIter_slot → Js,wpAny_setField → Jv,wpAny_runValue → Jw,holding → JJ,codeAny_call_builtin → JK,wpAny_updateSeq_pair → JL,call_meets → JP,wpAny_execs_nil → JZ,wpAny_letOwnedTupleGo_enum → Kb,isSubtype_stop → Kk,wpAny_comprehension_free → Ku,intKind_is → Kv,wpAny_list_append_plain → KJ,wpAny_newList → KL,intItems_at → KN,wpAny_onRaise → KO,numAt_eq → KP,noFill_tuple_add → KS,wpAny_askSetting → KU,entryFor_of_tree → KW,wpAny_Call_method_late → K4,codeAny_compStart_list → K5,wpAny_isTrue_Compare1 → Lh,concat_meets → Li,callType_new → Lj,wpAny_eqIsQuiet_tuple → Lk,codeAny_of_tree → Ll,weight_type_call_type → Lm,typeIs_int → Lq,codeAny_extend_loopS → LF,seqIndex_of → LM,wpAny_setEntries_of → LO,seq_tuple_add → L7,wpAny_handled → L9,wpAny_eqBool_tuple → Mb,signature?_of → Mc,call_function_tree → Md,wpAny_evalAll_cons → Me,wpAny_load → Mv,wpAny_call → Mw,wpAny_sequenceKey → Mx,seqIndex_neg → ME,wpAny_throw → M8,wpAny_mkInt → M9,wpAny_Name → Nn
open List renaming length_map → Ex,getElem?_eq_getElem → EA,mem_singleton → ED,length_append → EE,getD_eq_getElem?_getD → EF,mem_of_getElem? → EH,getElem?_eq_some_iff → EJ,size_toArray → EM,map_append → ER,getElem?_map → ET,mem_append → EU,mem_cons → EW,map_cons → EZ,getElem?_append_left → E1,mem_append_right → E5,getElem?_append_right → E6,mem_cons_self → E7,mem_cons_of_mem → E8,mem_map → E9,length_cons → Fg,getElem?_toArray → Fj,replicate → Fn,mem_filter → Fo,filter_cons_of_neg → Fs,take_of_length_le → Fv,filter_cons_of_pos → Fw,length_take → Fz,length_drop → FD,take_length → FI,mem_range → FJ,range → FP,append_nil → FQ,take_add_one → FW,sum_cons → F2,mem_append_left → F6,length_singleton → Gh,getElem?_eq_none → Gi,mem_of_mem_take → Gp,pairwise_map → Gq,one_le_count_iff → Gs,mem_map_of_mem → Gu,length_pos_iff → Gv,replicate_succ → GD,all_eq_true → GI,getElem_mem → GJ,length_eq_zero_iff → GN,count_pos_iff → GR,idxOf_lt_length_iff → G3,length_filter_le → G4,length_nil → G9,nodup_cons → Hn,length_replicate → Ho,mem_iff_getElem? → Hr,getElem?_drop → Ht,filter_append → Hu,lookup_cons → Hv,getElem?_set_ne → Hw,mem_of_mem_drop → Hx,getElem?_cons_succ → Hy,append_assoc → HB,length_set → HD,getElem_of_mem → HE,getElem?_set_self → HH,concat_eq_append → HP,getElem?_eq_none_iff → HU,exists_mem_of_ne_nil → HV,flatten_cons → HY,length_range → Ib,eq_of_mem_replicate → Ic,map_drop → Ik,length_reverse → Im,mem_filterMap → Iw,find?_cons → ID,any_cons → IG,map_take → IH,reverse_cons → II,perm_ext_iff_of_nodup → IK,getElem?_zip_eq_some → IM,pairwise_iff_getElem → IP,any_eq_true → IS,getElem?_replicate → Je,zip_cons_cons → Jg,getElem_idxOf → Ji,nodup_append → Jq,drop_zero → Jt,nodup_nil → Ju,map_nil → Jx,take_append_drop → JB,filterMap_append → JC,eq_nil_or_concat → JE,not_mem_nil → JH,filterMap_cons → JR,count_cons → JW,filter_sublist → JY,set_set → Kc,find?_range_eq_none → Kn,pairwise_singleton → Kx,length_pos_of_mem → K2,of_mem_zip → K6,forIn_cons → K7,length_zip → K8,contains_iff_mem → Lb,filter_map → Ld,perm_append_comm → Lg,pairwise_append → Lv,getElem?_of_mem → Lz,reverse_reverse → LA,mem_erase_of_ne → LB,forIn_nil → LG,filter_eq_self → LL,all_cons → LW,getElem?_take → LZ,pairwise_cons → L6,ext_getElem? → Mk,getElem?_inj → Mp,getElem?_set → Mq,reverse_perm → Mr,count_filter → Ms,all_map → MA,map_set → MB,cons_append → MH,nodup_range → MJ,ext_getElem → MM,zipIdx_cons → MN,range'_succ → MR,append_inj' → MT,foldl_cons → MV,nil_append → MW,zipIdx_nil → M0,sum_append → M4,range_succ → M5,take_succ → Ng,set_comm → Nq,any_map → Ny
open PySem.Heap renaming get?_push_of_some → Ey,get?_push_size → EK,lt_size → EN,get?_update_other → Fd,get?_update_self → FH,size_push → FK,get?_update_ne → LJ
open PySem.W renaming Frag → Ez,mg_none_of → FA,nsIn → F3,kia_one → GB,mg_of → JN,cellsFrom_some → KY,kat_nil → K9,kitx_tuple → LR,kitx_list → Mf,kitx_dict → Mg,binds_K → M6
open Nat renaming le_refl → EI,lt_of_lt_of_le → EL,ne_of_lt → EY,lt_of_le_of_lt → Fb,le_trans → Ff,lt_irrefl → Fl,zero_le → FE,pow_le_pow_right → FG,lt_succ_of_lt → FV,lt_succ_self → F8,le_of_lt → Gz,ne_of_gt → GZ,sub_self → G1,not_lt_zero → HZ,le_of_lt_succ → Ia,lt_of_not_le → Io,mul_lt_mul'' → Ip,eq_zero_or_pos → Iz,lt_of_succ_lt → IJ,succ_pos → IZ,lt_or_ge → Ja,mod_lt → Jp,zero_add → JA,le_of_not_lt → JF,add_le_add_left → JT,le_succ → JU,min_self → Ke,pow_add → KG,min_eq_right → KR,le_antisymm → La,sub_zero → Lc,add_lt_add_right → LD,pow_succ → Mz,le_add_right → MK,le_zero → M3,not_lt → Nm
open Bool renaming false_ne_true → EO,false_eq_true → Fc,and_eq_true → Fh,false_and → GW,eq_false_iff → G0,not_true → Hl,eq_iff_iff → Hm,and_false → HS,true_and → KH,false_or → L5,not_eq_true' → Mt,not_false → Nf,or_false → Nr
open Option.some renaming inj → EX,injEq → Mi
open PySem.Value renaming ref → E2,int → GO,none → GV,type → Hk,isInt_shape → Kl
open Array renaming length_toList → E3,getElem?_eq_getElem → Fe,mem_toList_iff → Fu,size_map → FL,getElem?_toList → FO,getD_eq_getD_getElem? → Ha,getElem?_eq_none → HI,toList_push → Jo,toList_map → JG,perm_iff_toList_perm → J8,getElem?_replicate → Ko,getElem?_map → L0,forIn_toList → L1,getElem_mem → Ml,toList_inj → MI
open PySem.PassesOwn renaming never → Fp
open PySem.F renaming plain_min_loop → Fy,plainAttrs_list → FY,slot_list_append → Ga,type_list_append → Gb,called_set → GH,entry_min_loop → Hg,slot_tuple_iterator_next → HJ,slot_enumerate_iter → IA,slot_enumerate_next → IC,plain_extend_loop → IV,args_tuple_add_2 → IY,entry_tuple_add → Jh,slot_tuple_add → Jl,args_tuple_iterator_next_1 → JM,entry_tuple_iterator_next → JV,slot_zip_next → JX,args_object_init_2 → J9,plain_extend_loop → Kj,slot_tuple_count → Kp,plain_min → Kr,entry_min → Ks,slot_tuple_index → Kt,args_enumerate_iter_1 → Ky,slot_list_index → KC,plain_list_iadd → KD,kind_min → KQ,entry_enumerate_iter → K0,typeCall_set_1 → K1,mro_reversed → Lw,entry_extend_loop → LK,entry_type_call → Mm,plain_list_iadd → Mn,args_zip_next_1 → Mo,entry_set_init → ML,entry_zip_next → MO,args_list_eq_2 → MQ,slot_int_rmul → MX,plain_set_new → MY,slot_set_iter → MZ,entry_list_eq → M1
open PyProof.Rows renaming arrOf → FC,slot_tuple_getitem → FU,wpS_bind → Gm,callWith_type1 → GA,wpS_pure → Hc,IntsAre → Hj,SortSt → Ir,pendingOf → Iu,Keyed → IL,wpS_forRange → Jd,reverseSlice'_eq → JI,wpS_modify → JQ,assignInOrder_cons → Kh,subscriptTail_builtinR → K3,KeyOrd → Ln,wpS_mono → Lr,getElem?_mirror_all → LN,args_tuple_getitem → L8,listUpdate_at → Ma,assignInOrder_nil → Mu,wpS_get → My,listItems_at → MF,len_tuple → M7,size_push' → Np,wpS_lift → Nv,isInt_at → Nw
open PySem.Around renaming under_plainId → FF,under_plain → L4
open Classical renaming byContradiction → FZ
open Iff renaming rfl → Ge
open Ne renaming symm → Gn
open PySem.Builtin.List renaming listExtendWith → Gr,listLengthHint → HG,listSameRef → Ii
open Int renaming emod_lt_of_pos → Gx,emod_nonneg → GF,toNat_natCast → GK,zero_add → G5,mul_right_comm → Hb,mul_le_mul_of_nonneg_right → Ij,mul_le_mul_of_nonneg_left → Iq,natAbs_mul → Iv,le_refl → IE,le_of_lt → Jb,mul_pos → Jr,zero_mul → JD,gcd_pos_of_ne_zero_right → JO,mul_one → JS,fdiv_eq_ediv_of_nonneg → J6,le_of_mul_le_mul_right → Ka,le_total → Kg,mul_assoc → KI,add_zero → Lf,mul_ediv_cancel' → Lx,mul_comm → MC,ne_of_lt → MD,natAbs_neg → Nh
open List.Nodup renaming length_le_of_subset → GQ
open PySem.Obj renaming mapSeq → He,data_mapFields → HL,isFreed_of_fields → Jz,cls_mapFields → Mj
open Option renaming map_eq_some_iff → Hf,map_some → Hq,toList_some → HM,isSome_iff_exists → IX,isSome_map → Kq,isSome_some → LX,getD_none → MG,bind_some → MS
open PyProof.Rows.KeyOrd renaming kle_refl → Hs,kle_trans → IQ,kle_of_klt → Km,kle_antisymm → LI
open PyProof.Rows.F renaming plain_set_update_loop → Il,entry_set_update_loop → Kz
open PySem.Heap.SameBut renaming update → IU
open List.Pairwise renaming imp_of_mem → I0,imp → NG,and → NH
open PySem.SeqAt.EqAt renaming int_int → Jf,int_str → LP,str_int → LQ
open PySem.Calls renaming Name_function_global → J0,call_function_entry → Ki,callWith_builtin → KZ,evalArgs_plain → Lu,spliced_cons → LS,spliced_nil → Mh
open PySem.Code renaming quiet_builtin → Kf
open PySem.Paired renaming length → Kw,snoc → NC
open PySem.Walks renaming tuple → KA,list → Lo
open Std.Legacy.Range renaming forIn_eq_forIn_range' → Lp
open PySem.SeqAt renaming EqAt → Ls
open List.Perm renaming refl → LH
open Prod renaming ext → LV
open PySem.Heap.ExtBut renaming push → MP
open Sum.inl renaming inj → MU
open PySem.EqMixed renaming eq_bool_str → Na,eq_str_bool → Nb,ne_bool_str → Nc,ne_str_bool → Nd,eq_int_str → Ni,eq_str_int → Nj,ne_int_str → Nk,ne_str_int → Nl
open PySem.CmpOf renaming ints_lt → Nt
open PySem.Moved renaming eq_with → Nu,trans → NB
open PySem.W.Looks renaming of_pure → Nx
open PySem.W.KatTups renaming cons → Nz
open PySem.ItemsOf renaming nil → ND
open PySem.Heap.IsSliceOf renaming new → NF
set_option Elab.async false
set_option linter.all false
set_option maxRecDepth 100000
set_option maxHeartbeats 4000000
namespace L2
open PySem PySem.Spec PyProof.Rows
abbrev Key:=Sum Int Str
def oA:Key->EB->Bool
 | .inl k,v=>Value.isInt k v
 | .inr x,v=>Value.isStrOf x v
def keyH (w:Fm):Key->Int
 | .inl k=>hashInt k
 | .inr x=>hashStr w x
theorem bC:∀{k:Key} {v:EB},oA k v=true->(∃i t,k=Sum.inl i/\v=GO i t)\/(∃x t,k=Sum.inr x/\v=Value.str x t)
 | .inl i,v,h=>by
  obtain ⟨t,e⟩:=Kl (k:=i) (v:=v) h
  exact .inl ⟨i,t,rfl,e⟩
 | .inr x,v,h=>by
  obtain ⟨t,e⟩:=Value.isStrOf_shape (x:=x) (v:=v) h
  exact .inr ⟨x,t,rfl,e⟩
theorem wM (i:Int)(t:Tok):oA (.inl i) (.int i t)=true:=by simp[oA,Value.isInt]
theorem wN (x:Str)(t:Tok):oA (.inr x) (.str x t)=true:=by simp[oA,Value.isStrOf]
theorem Cm (a b:Int):decide ((Sum.inl a:Key)=Sum.inl b)=(a == b):=by
 by_cases e:a=b
 ·subst e;simp
 ·have h:¬ (Sum.inl a:Key)=Sum.inl b:=λq=>e (MU q)
  rw[decide_eq_false h]
  exact (beq_eq_false_iff_ne.mpr e).symm
theorem Cn (a b:Str):decide ((Sum.inr a:Key)=Sum.inr b)=decide (a=b):=by
 by_cases e:a=b
 ·subst e;simp
 ·have h:¬ (Sum.inr a:Key)=Sum.inr b:=λq=>e (Sum.inr.inj q)
  rw[decide_eq_false h,decide_eq_false e]
theorem Co (a:Int)(b:Str):decide ((Sum.inl a:Key)=Sum.inr b)=false:=decide_eq_false (λq=>nomatch q)
theorem Cp (a:Str)(b:Int):decide ((Sum.inr a:Key)=Sum.inl b)=false:=decide_eq_false (λq=>nomatch q)
def bJ (prog:EV)(w:Fm):PySem.KeyKind prog w Key where
 is:=oA
 hash:=keyH w
 inj:=λv a b ha hb=>by
  rcases bC ha with ⟨i,t,rfl,rfl⟩ | ⟨x,t,rfl,rfl⟩
  ·rcases bC hb with ⟨j,u,rfl,e⟩ | ⟨y,u,rfl,e⟩
   ·injection e with e1 _;rw[e1]
   ·exact nomatch e
  ·rcases bC hb with ⟨j,u,rfl,e⟩ | ⟨y,u,rfl,e⟩
   ·exact nomatch e
   ·injection e with e1 _;rw[e1]
 byValue:=λk v h=>by
  rcases bC h with ⟨i,t,rfl,rfl⟩ | ⟨x,t,rfl,rfl⟩ <;> rfl
 pyHash:=λhv h=>by
  rcases bC hv with ⟨i,t,rfl,rfl⟩ | ⟨x,t,rfl,rfl⟩
  ·exact wpAny_pyHash_int h
  ·exact wpAny_pyHash_str h
 eqBool:=λhu hv h=>by
  rcases bC hu with ⟨i,t,rfl,rfl⟩ | ⟨x,t,rfl,rfl⟩
  ·rcases bC hv with ⟨j,u,rfl,rfl⟩ | ⟨y,u,rfl,rfl⟩
   ·rw[Cm] at h;exact wpAny_eqBool_int h
   ·rw[Co] at h;exact LP i t y u _ _ _ _ h
  ·rcases bC hv with ⟨j,u,rfl,rfl⟩ | ⟨y,u,rfl,rfl⟩
   ·rw[Cp] at h;exact LQ x t j u _ _ _ _ h
   ·rw[Cn] at h;exact wpAny_eqBool_str h
 «strs» := λk x t v h=>by
  rcases bC h with ⟨i,u,rfl,e⟩ | ⟨y,u,rfl,e⟩
  ·exact nomatch e
  ·injection e with e1 _
   subst e1
   cases v <;> rfl
theorem rh (prog:EV)(w:Fm)(i:Int)(t:Tok):(bJ prog w).is (.inl i) (.int i t)=true:=wM i t
theorem rj (prog:EV)(w:Fm)(x:Str)(t:Tok):(bJ prog w).is (.inr x) (.str x t)=true:=wN x t
inductive V where
 | non | bl (b:Bool) | int (i:Int) | str (x:Str) | byt (b:Array UInt8) | flt (b:UInt64) | ref (a:Addr) | ty (n:String)
 deriving DecidableEq
def RelV:V->EB->Prop
 | .non,u=>u=GV
 | .bl b,u=>u=Value.bool b
 | .int i,u=>∃t,u=GO i t
 | .str x,u=>∃t,u=Value.str x t
 | .byt b,u=>∃t,u=Value.bytes b t
 | .flt b,u=>∃t,u=Value.float b t
 | .ref a,u=>u=E2 a
 | .ty n,u=>u=Hk n
abbrev Vals:List V->List EB->Prop:=Paired RelV
theorem Vals.length {xs:List V}{us:List EB}(r:Vals xs us):xs.length=us.length:=Kw r
theorem Vals.get:∀{xs:List V} {us:List EB} {i:Nat} {x:V},Vals xs us->xs[i]? = some x->∃u,us[i]? = some u/\RelV x u
 | _,_,_,_,.nil,e=>by simp at e
 | _,_,0,_,.cons r _,e=>by simp at e;subst e;exact ⟨_,rfl,r⟩
 | _,_,i+1,x,.cons _ t,e=>by
  obtain ⟨u,h1,h2⟩:=Vals.get (i:=i) (x:=x) t (by simpa using e)
  exact ⟨u,by simpa using h1,h2⟩
theorem Vals.set {x:V}{u:EB}(r:RelV x u):∀{xs:List V} {us:List EB} (i:Nat),Vals xs us->Vals (xs.set i x) (us.set i u)
 | _,_,_,.nil =>.nil
 | _,_,0,.cons _ t =>.cons r t
 | _,_,i+1,.cons q t =>.cons q (Vals.set r i t)
theorem Vals.append:∀{xs ys:List V} {us ws:List EB},Vals xs us->Vals ys ws->Vals (xs++ys) (us++ws)
 | _,_,_,_,.nil,s=>s
 | _,_,_,_,.cons r t,s =>.cons r (Vals.append t s)
theorem Vals.take:∀{xs:List V} {us:List EB} (n:Nat),Vals xs us->Vals (xs.take n) (us.take n)
 | _,_,0,_ =>.nil
 | _,_,_+1,.nil =>.nil
 | _,_,n+1,.cons r t =>.cons r (Vals.take n t)
theorem Vals.drop:∀{xs:List V} {us:List EB} (n:Nat),Vals xs us->Vals (xs.drop n) (us.drop n)
 | _,_,0,r=>r
 | _,_,_+1,.nil =>.nil
 | _,_,n+1,.cons _ t=>Vals.drop n t
def mz:Option V->Option EB->Prop
 | some v,some u=>RelV v u
 | none,none=>True
 | _,_=>False
def KV {κ:Type}:List (κ×V)->List (κ×EB)->Prop:=Paired λ(p:κ×V) (q:κ×EB)=>p.1=q.1/\RelV p.2 q.2
def kV:Key->V
 | .inl i =>.int i
 | .inr x =>.str x
inductive HO where
  | lst (xs:List V)
  | tup (xs:List V)
  | dK (kvs:List (Key×V)) | dT (kvs:List (List Key×V))
  | set (S:Int->Bool) (n:Nat)
  | ins (C dx:Addr) (fs:List (Str×V))
  | own (x:Addr)
  | xd (fs:List (Str×V))
  | met (f x:Addr)
  | rng (lo hi:Int)
  | frz (o:Obj) (u:HO)
  | tbl (ps:Array EB)
  | ext (φ:Heap->Prop)
abbrev Hp:=Addr->Option HO
def upd (H:Hp)(a:Addr)(o:HO):Hp:=λb=>if b=a then some o else H b
theorem ai {H:Hp}{a:Addr}{o:HO}:upd H a o a=some o:=by unfold upd;rw[if_pos rfl]
theorem aH {H:Hp}{a b:Addr}{o:HO}(h:b≠a):upd H a o b=H b:=by unfold upd;rw[if_neg h]
theorem lC {H:Hp}{a b:Addr}{o u:HO}(h:H a=some o)(h':H b=some u)(d:o≠u):a≠b:=by
 intro e;subst e;rw[h] at h';exact d (EX h')
theorem aJ {H:Hp}{a b:Addr}{o:HO}(h:H a=some o)(h':H b=none):a≠b:=by
 intro e;subst e;rw[h] at h';cases h'
def eM (h:Heap)(a:Addr)(items:Array EB):Prop:=∃o,h.get? a=some o/\(o.cls = .type "tuple" /\ o.dict=none)/\∃n,o.data = .seq items n
theorem eM.tup {h:Heap}{a:Addr}{items:Array EB}(x:eM h a items):IsTup h a items:=let ⟨o,e,c,n,d⟩:=x;⟨o,e,c.1,n,d⟩
theorem eM.new (h:Heap)(items:Array EB):eM (h.push { cls :=.type "tuple",data :=.seq items }) h.objs.size items:=⟨_,EK _ rfl,⟨rfl,rfl⟩,_,rfl⟩
section
variable  (P:EV)(w:Fm)
def ba (H:Hp)(h:Heap)(a:Addr):HO->Prop
 | .lst xs=>xs.length<=ES/\∃(its:List EB) (n:Nat),Vals xs its/\h.get? a=some { cls :=.type "list",data :=.seq its.toArray n }
 | .tup xs=>xs.length<=ES/\∃its:List EB,Vals xs its/\eM h a its.toArray
 | .dK kvs=>kvs.length<=ES/\(a == sysModules)=false/\∃vs,KV kvs vs/\h.DictOf (bJ P w) a vs
 | .dT kvs=>kvs.length<=ES/\(a == sysModules)=false/\∃xs:List (List Key×Addr×EB),
   Paired (λ(p:List Key×V) (q:List Key×Addr×EB)=>p.1=q.1/\H q.2.1=some (.tup (p.1.map kV))/\RelV p.2 q.2.2) kvs xs ∧
   ∃o es ep,h.get? a=some o/\o.ExactDict/\o.data = .dict es ep/\es.toList=xs.map (entryOfKey (tupleKind (bJ P w)))/\(xs.map (·.1)).Nodup
 | .set S n=>h.SetOf (intKind P w) a S n
 | .ins C dx fs=>H dx=some (.own a)/\fs.length<=1000/\dx≠a/\h.get? a=some (PySem.W.instObj C dx) ∧
   ∃mA,h.Ns1 dx mA/\(∀f,mz (fs.lookup f) (mA f))/\PySem.Within mA (fs.map (·.1))
 | .own _=>∃o,h.get? a=some o
 | .xd fs=>∃mA,h.Ns1 a mA/\∀f,mz (fs.lookup f) (mA f)
 | .rng lo hi=>∃t u v,h.get? a=some { cls :=.type "range",data :=.fields #[.int lo t,.int hi u,.int 1 v] }
 | .frz o u=>h.get? a=some o/\ba H h a u
 | .tbl ps=>h.get? a=some { cls :=.none,data :=.fields ps }
 | .met f x=>h.get? a=some (PySem.W.methodObj (.ref f) (.ref x))
 | .ext φ=>φ h/\(∃o,h.get? a=some o)/\∀h1 h2:Heap, φ h1->(∀o,h1.get? a=some o->h2.get? a=some o) -> φ h2
def HOk (H:Hp)(h:Heap):Prop:=∀a o,H a=some o->ba P w H h a o
end
section
variable  {P:EV}{w:Fm}{H H':Hp}{h h':Heap}{a:Addr}{o:HO}
theorem ba.lt (x:ba P w H h a o):a<h.objs.size:=by
 cases o with
 | lst xs=>obtain ⟨_,_,_,_,e⟩:=x;exact EN e
 | tup xs=>obtain ⟨_,_,_,p⟩:=x;exact (eM.tup p).lt
 | dK kvs=>obtain ⟨_,_,_,_,o,_,_,e,_⟩:=x;exact EN e
 | dT kvs=>obtain ⟨_,_,_,_,o,_,_,e,_⟩:=x;exact EN e
 | set S n=>obtain ⟨o,_,_,_,e,_⟩:=x;exact EN e
 | ins C dx fs=>obtain ⟨_,_,_,e,_⟩:=x;exact EN e
 | own y=>obtain ⟨_,e⟩:=x;exact EN e
 | xd fs=>obtain ⟨_,⟨_,_,_,e,_⟩,_⟩:=x;exact EN e
 | rng lo hi=>obtain ⟨_,_,_,e⟩:=x;exact EN e
 | frz ob u=>obtain ⟨e,_⟩:=x;exact EN e
 | tbl ps=>exact EN (show h.get? a=some _ from x)
 | met f y=>exact EN (show h.get? a=some _ from x)
 | ext φ=>obtain ⟨_,⟨_,e⟩,_⟩:=x;exact EN e
theorem Paired.Cq {α β:Type}{F G:α -> β -> Prop}:∀{l₁:List α} {l₂:List β},Paired F l₁ l₂->(∀a b,F a b->G a b)->Paired G l₁ l₂
 | _,_,.nil,_ =>.nil
 | _,_,.cons r t,f =>.cons (f _ _ r) (Paired.Cq t f)
theorem ba.stay (x:ba P w H h a o)(k:∀b u,(b=a\/H b=some (.own a))->h.get? b=some u->h'.get? b=some u)
  (ho:∀b,H b=some (.own a)->H' b=some (.own a)) (ht:∀b xs,H b=some (.tup xs)->H' b=some (.tup xs)):ba P w H' h' a o:=by
 induction o with
 | lst xs=>obtain ⟨z,its,n,r,e⟩:=x;exact ⟨z,its,n,r,k _ _ (.inl rfl) e⟩
 | tup xs=>obtain ⟨z,its,r,ob,e,c⟩:=x;exact ⟨z,its,r,ob,k _ _ (.inl rfl) e,c⟩
 | dK kvs=>obtain ⟨z,y,vs,r,ob,es,ep,e,c⟩:=x;exact ⟨z,y,vs,r,ob,es,ep,k _ _ (.inl rfl) e,c⟩
 | dT kvs =>
  obtain ⟨z,y,xs,r,ob,es,ep,e,c⟩:=x
  exact ⟨z,y,xs,Paired.Cq r λp q z=>⟨z.1,ht _ _ z.2.1,z.2.2⟩,ob,es,ep,k _ _ (.inl rfl) e,c⟩
 | set S n=>obtain ⟨ob,es,ep,t,e,c⟩:=x;exact ⟨ob,es,ep,t,k _ _ (.inl rfl) e,c⟩
 | ins C dx fs =>
  obtain ⟨d,z,ne,e,mA,⟨od,es,ep,e2,c⟩,r⟩:=x
  exact ⟨ho _ d,z,ne,k _ _ (.inl rfl) e,mA,⟨od,es,ep,k _ _ (.inr d) e2,c⟩,r⟩
 | own y=>obtain ⟨ob,e⟩:=x;exact ⟨ob,k _ _ (.inl rfl) e⟩
 | xd fs=>obtain ⟨mA,⟨od,es,ep,e,c⟩,r⟩:=x;exact ⟨mA,⟨od,es,ep,k _ _ (.inl rfl) e,c⟩,r⟩
 | rng lo hi=>obtain ⟨t,u,v,e⟩:=x;exact ⟨t,u,v,k _ _ (.inl rfl) e⟩
 | frz ob u ih=>obtain ⟨e,q⟩:=x;exact ⟨k _ _ (.inl rfl) e,ih q⟩
 | tbl ps =>
  have e:h.get? a=some { cls :=.none,data :=.fields ps }:=x
  show h'.get? a=some { cls :=.none,data :=.fields ps }
  exact k a _ (.inl rfl) e
 | met f y =>
  have e:h.get? a=some (PySem.W.methodObj (.ref f) (.ref y)):=x
  show h'.get? a=some (PySem.W.methodObj (.ref f) (.ref y))
  exact k a _ (.inl rfl) e
 | ext φ=>obtain ⟨p,⟨o,e⟩,st⟩:=x;exact ⟨st _ _ p λo q=>k _ _ (.inl rfl) q,⟨o,k _ _ (.inl rfl) e⟩,st⟩
theorem HOk.lt (x:HOk P w H h)(e:H a=some o):a<h.objs.size:=(x a o e).lt
theorem HOk.fresh (x:HOk P w H h)(e:h.objs.size<=a):H a=none:=by
 cases q:H a with
 | none=>rfl
 | some u=>exact absurd (EL (x.lt q) e) (Fl _)
theorem HOk.kept (x:HOk P w H h)(k:∀b u,h.get? b=some u->h'.get? b=some u):HOk P w H h':=λa o e =>
 (x a o e).stay (λb u _ q=>k b u q) (λ_ q=>q) λ_ _ q=>q
theorem HOk.laid (x:HOk P w H h)(k:∀b u,h.get? b=some u->h'.get? b=some u)(hp:h.objs.size<=a)(new:ba P w (upd H a o) h' a o):HOk P w (upd H a o) h':=λb u e=>by
 have hn:=x.fresh hp
 by_cases hb:b=a
 ·subst hb;rw[ai] at e;cases e;exact new
 ·rw[aH hb] at e
  exact (x b u e).stay (λc v _ q=>k c v q) (λc q=>by rw[aH (aJ q hn)];exact q) λc xs q=>by rw[aH (aJ q hn)];exact q
end
def Rd (H:Hp)(a:Addr)(u:HO):Prop:=H a=some u\/∃o,H a=some (.frz o u)
theorem Rd.ok {P:EV}{w:Fm}{H:Hp}{h:Heap}{a:Addr}{u:HO}(r:Rd H a u)(x:HOk P w H h):ba P w H h a u:=by
 rcases r with r | ⟨o,r⟩
 ·exact x a u r
 ·obtain ⟨_,q⟩:=x a _ r
  exact q
def Mut:Option HO->Prop
 | some (.lst _)=>True
 | some (.dK _)=>True
 | some (.dT _)=>True
 | some (.set _ _)=>True
 | some (.ins _ _ _)=>True
 | some (.ext _)=>True
 | _=>False
section
variable  {P:EV}{w:Fm}{H:Hp}{h h':Heap}{x e:Addr}{o':HO}
theorem HOk.write (ok:HOk P w H h)(mu:Mut (H x))(he:e=x\/H e=some (.own x))(k:∀b u,b≠e->h.get? b=some u->h'.get? b=some u)(heo:∃u,h'.get? e=some u)
  (new:ba P w (upd H x o') h' x o'):HOk P w (upd H x o') h':=λb u q=>by
 have nown:∀c y,H c=some (.own y)->c≠x:=λc y r z=>by subst z;rw[r] at mu;exact mu
 have ntup:∀c xs,H c=some (.tup xs)->c≠x:=λc xs r z=>by subst z;rw[r] at mu;exact mu
 by_cases hb:b=x
 ·subst hb;rw[ai] at q;cases q;exact new
 ·rw[aH hb] at q
  by_cases hbe:b=e
  ·have q':H b=some (.own x):=by
    rcases he with z | z
    ·exact absurd (hbe.trans z) hb
    ·rw[hbe];exact z
   rw[q] at q';cases q'
   obtain ⟨v,hv⟩:=heo
   exact ⟨v,by rw[hbe];exact hv⟩
  ·refine (ok b u q).stay (λc v hc r=>k c v ?_ r) (λc r=>by rw[aH (nown c b r)];exact r) λc xs r=>by rw[aH (ntup c xs r)];exact r
   rcases hc with rfl | hc
   ·exact hbe
   ·rintro rfl
    rcases he with z | z
    ·exact nown c b hc z
    ·rw[hc] at z;cases z;exact hb rfl
end
structure Un (fs ex:List Addr)(H H':Hp)(h h':Heap):Prop where
 keep:∀b o,h.get? b=some o->H b=none->b∉fs->b∉ex->h'.get? b=some o
 slot:∀b o,h.get? b=some o->H b=none->b∈fs->b∉ex->∃sl,h'.get? b=some { o with slots:=sl }
 free:∀b o,h.get? b=some o->H b=none->b∉ex->H' b=none
 there:∀b o,h.get? b=some o->b∉ex->∃o',h'.get? b=some o'
 tups:∀b xs,H b=some (.tup xs)->H' b=some (.tup xs)
 frzs:∀b o u,H b=some (.frz o u)->H' b=some (.frz o u)
 tbls:∀b ps,H b=some (.tbl ps)->∃more,H' b=some (.tbl (ps++more))
section
variable  {fs fs' ex ex':List Addr}{H H1 H2:Hp}{h h1 h2 h':Heap}{a x e:Addr}{o:HO}
theorem Un.any (u:Un fs ex H H1 h h1){b:Addr}{ob:Obj}(q:h.get? b=some ob)(n:H b=none)(hx:b∉ex):∃sl,h1.get? b=some { ob with slots:=sl }:=by
 by_cases hb:b∈fs
 ·exact u.slot b ob q n hb hx
 ·exact ⟨ob.slots,u.keep b ob q n hb hx⟩
theorem Un.kept (k:∀b u,h.get? b=some u->h'.get? b=some u):Un fs ex H H h h' :=
 ⟨λb ob q _ _ _=>k b ob q,λb ob q _ _ _=>⟨ob.slots,k b ob q⟩,λ_ _ _ n _=>n,λb ob q _=>⟨ob,k b ob q⟩,λ_ _ q=>q,λ_ _ _ q=>q,λ_ ps q=>⟨#[],by rw[q];simp⟩⟩
theorem Un.refl:Un fs ex H H h h:=Un.kept λ_ _ q=>q
theorem Un.laid (k:∀b u,h.get? b=some u->h'.get? b=some u)(hp:h.objs.size<=a)(hn:H a=none):Un fs ex H (upd H a o) h h' where
 keep:=λb u q _ _ _=>k b u q
 slot:=λb u q _ _ _=>⟨u.slots,k b u q⟩
 free:=λb u q n _=>by rw[aH (EY (EL (EN q) hp))];exact n
 there:=λb u q _=>⟨u,k b u q⟩
 tups:=λb xs q=>by rw[aH (aJ q hn)];exact q
 frzs:=λb u xs q=>by rw[aH (aJ q hn)];exact q
 tbls:=λb ps q=>⟨#[],by rw[aH (aJ q hn),q];simp⟩
theorem Un.write (mu:Mut (H x))(he:e=x\/H e=some (.own x))(k:∀b u,b≠e->h.get? b=some u->h'.get? b=some u)(heo:∃u,h'.get? e=some u):Un fs ex H (upd H x o) h h':=by
 have hx:∀b,H b=none->b≠x:=λb n z=>by subst z;rw[n] at mu;exact mu
 have hb:∀b,H b=none->b≠e:=λb n z=>by
  subst z
  rcases he with r | r
  ·exact hx b n r
  ·rw[n] at r;cases r
 have hm:∀b u,H b=some u->¬ Mut (some u)->b≠x:=λb u q nm z=>by subst z;rw[q] at mu;exact nm mu
 refine ⟨λb u q n _ _=>k b u (hb b n) q,λb u q n _ _=>⟨u.slots,k b u (hb b n) q⟩,λb u q n _=>by rw[aH (hx b n)];exact n,λb u q _ =>?_,
  λb xs q=>by rw[aH (hm b _ q λz=>z)];exact q,λb u xs q=>by rw[aH (hm b _ q λz=>z)];exact q,λb ps q=>⟨#[],by rw[aH (hm b _ q λz=>z),q];simp⟩⟩
 by_cases hbe:b=e
 ·subst hbe;exact heo
 ·exact ⟨u,k b u hbe q⟩
end
def trk (h:Heap)(H:Hp):List Addr:=(FP h.objs.size).filter λa=>(H a).isSome
def pN (h:Heap)(H:Hp):Heap:=PySem.W.hideAll h (trk h H)
theorem wO (h:Heap)(H:Hp):(pN h H).objs.size=h.objs.size:=PySem.W.hideAll_size _ _
theorem yr {h:Heap}{H:Hp}{b:Addr}{o:Obj}(e:h.get? b=some o)(n:H b=none):(pN h H).get? b=some o :=
 PySem.W.hideAll_get _ e λhm=>by
  have q:(H b).isSome=true:=(Fo.mp hm).2
  rw[n] at q;simp at q
theorem AK {h:Heap}{H:Hp}{b:Addr}{o:Obj}(e:(pN h H).get? b=some o):h.get? b=some o/\H b=none:=by
 have e':h.get? b=some o:=PySem.W.of_hideAll (trk h H) e
 refine ⟨e',?_⟩
 cases q:H b with
 | none=>rfl
 | some x =>
  have hm:b∈trk h H:=Fo.mpr ⟨FJ.mpr (EN e'),by simp[q]⟩
  have z:(pN h H).get? b=none:=PySem.W.hideAll_none (trk h H) hm
  rw[z] at e;cases e
def AL (g h:Heap)(L:Addr):List (Addr×Obj):=(FP h.objs.size).filterMap λa=>if a=L\/(g.get? a).isSome=true then none else (h.get? a).map λo=>(a,o)
def rest (g h:Heap)(L d:Addr):List (Addr×Obj):=(AL g h L).filter λp=>decide (p.1≠d)
structure Mod (K:Ez)(mg:Str->Option EB)(base:Heap):Prop where
 kin:K.In base
 glob:base.Ns Fx mg
 blt:∃mb,base.Ns builtinsNs mb/\∀x:Str,x ≠ "__name__" -> mb x=F1 x
 nolimit:base.NoLimit
structure Cx where
 prog:EV
 w:Fm
 K:Ez
 mg:Str->Option EB
 base:Heap
 A:FN
 N:List Str
 s₀:EG
 H₀:Hp
 env:Env
 outer:List Env
 stack:List Env
 ex:List Addr
 fn:Str->Bool
 calm:Bool
 pn:List (Addr×Obj)
 xe:EB->EG->Prop
def frs (l:List Env):List Addr:=l.filterMap (·.frame)
abbrev Cx.fs (X:Cx):List Addr:=frs X.outer
def Vis (sc:Scope)(x:Str):Prop:=sc.names.lookup x=some .local\/sc.names.lookup x=some .cell\/sc.names.lookup x=some .free
def Loc (sc:Scope)(x:Str):Prop:=sc.names.lookup x=some .local\/sc.names.lookup x=some .cell
def Look (env:Env)(h:Heap)(m:Str->Option EB)(x:Str)(u:EB):Prop :=
 (env.kindOf x=some .local/\m x=some u)\/((env.kindOf x=some .cell\/env.kindOf x=some .free)/\∃c,env.cells.lookup x=some c/\h.IsCell c (some u))
structure Cx.Ok (X:Cx):Prop where
 mod:Mod X.K X.mg X.base
 kind:X.env.scope.kind = .function
 glob:X.env.globals=Fx
 blt:X.env.builtins=builtinsNs
 above:X.s₀.heap.objs.size<=X.env.locals
 inj:∀x y c,X.env.cells.lookup x=some c->X.env.cells.lookup y=some c->x=y
 has:∀x,(X.env.kindOf x=some .cell\/X.env.kindOf x=some .free)->∃c,X.env.cells.lookup x=some c
 cab:∀x c,X.fn x=true->X.env.cells.lookup x=some c->X.s₀.heap.objs.size<=c
 hd:X.calm=true->X.A.handled=none
 frames:X.A.frames=some X.stack
 stk:X.stack=X.outer\/(X.stack=X.env :: X.outer/\X.env.frame=some X.env.locals)
 exf:∀b∈X.ex,b≠X.env.locals/\∀x c,X.env.cells.lookup x=some c->c≠b
 bs:∀b o,X.base.get? b=some o->X.s₀.heap.get? b=some o/\X.H₀ b=none
 bsz:X.base.objs.size<=X.s₀.heap.objs.size
 noex:∀b o,X.base.get? b=some o->b∉X.ex
 exfs:∀b∈X.ex,b∉X.fs
 funs:X.s₀.heap.FunFrames X.base X.outer
 frf:∀b∈X.fs,X.H₀ b=none
structure Inv (X:Cx)(pins:List (Addr×Obj))(σ:List (Option V))(H:Hp)(s:EG):Prop where
 ok:X.Ok
 os:s.os=X.s₀.os
 bare:AllBare s.gens
 base:Un X.fs X.ex X.H₀ H X.s₀.heap s.heap
 loc:∃m,s.heap.Ns X.env.locals m/\∀(i:Nat) (x:Str) (v:V),X.N[i]? = some x->σ[i]? = some (some v)->Vis X.env.scope x->∃u,RelV v u/\Look X.env s.heap m x u
 cell:∀x c,X.env.cells.lookup x=some c->∃v,s.heap.IsCell c v
 free:H X.env.locals=none
 freeC:∀x c,X.env.cells.lookup x=some c->H c=none
 pin:∀p∈X.pn++pins,s.heap.get? p.1=some p.2/\H p.1=none/\p.1≠X.env.locals/\p.1∉X.fs/\∀v,p.2.data ≠ .cell v
 hok:HOk X.prog X.w H s.heap
 len:σ.length=X.N.length
section
variable  {X:Cx}{pins:List (Addr×Obj)}{σ:List (Option V)}{H H':Hp}{s:EG}{h':Heap}
theorem Cx.Ok.nofr (ok:X.Ok){b:Addr}{o:Obj}(e:X.base.get? b=some o):b∉X.fs:=λhb=>by
 have:=(ok.funs.mem hb).1
 rw[e] at this;cases this
theorem Inv.bs (I:Inv X pins σ H s):∀b o,X.base.get? b=some o->s.heap.get? b=some o/\H b=none:=λb o e =>
 ⟨I.base.keep b o (I.ok.bs b o e).1 (I.ok.bs b o e).2 (I.ok.nofr e) (I.ok.noex b o e),I.base.free b o (I.ok.bs b o e).1 (I.ok.bs b o e).2 (I.ok.noex b o e)⟩
theorem Inv.bk (I:Inv X pins σ H s):∀b o,X.base.get? b=some o->s.heap.get? b=some o:=λb o e=>(I.bs b o e).1
theorem Inv.mod (I:Inv X pins σ H s):Mod X.K X.mg X.base:=I.ok.mod
theorem Inv.kIn (I:Inv X pins σ H s):X.K.In s.heap:=I.ok.mod.kin.keeps I.bk
theorem Inv.lt (I:Inv X pins σ H s):X.env.locals<s.heap.objs.size:=let ⟨_,hn,_⟩:=I.loc;hn.lt
theorem Inv.sz (I:Inv X pins σ H s):X.s₀.heap.objs.size<=s.heap.objs.size:=Ff I.ok.above (Gz I.lt)
theorem Inv.yt (I:Inv X pins σ H s){a:Addr}(h:s.heap.objs.size<=a):a∉X.fs:=λhb=>by
 obtain ⟨_,o,ho,_⟩:=I.ok.funs.mem hb
 exact absurd (EL (EN ho) (Ff I.sz h)) (Fl _)
theorem Inv.cne (I:Inv X pins σ H s):∀x c,X.env.cells.lookup x=some c->c≠X.env.locals:=λx c e z=>by
 obtain ⟨v,o,ho,hd⟩:=I.cell x c e
 obtain ⟨m,⟨o',es,ep,ho',hd',_⟩,_⟩:=I.loc
 rw[z,ho'] at ho;cases ho;rw[hd'] at hd;cases hd
theorem Inv.funs (I:Inv X pins σ H s):s.heap.FunFrames X.base X.outer:=by
 have all:∀(l:List Env),(∀b∈frs l,b∈X.fs)->X.s₀.heap.FunFrames X.base l->s.heap.FunFrames X.base l:=by
  intro l
  induction l with
  | nil=>intro _ _;trivial
  | cons env r ih =>
   intro hs hl
   obtain ⟨hk,⟨L,o,hf,hn,ho,hd⟩,hr⟩:=hl
   have hL:L∈X.fs:=hs L (by unfold frs;rw[JR,hf];exact E7)
   obtain ⟨sl,e⟩:=I.base.slot L o ho (I.ok.frf L hL) hL λz=>I.ok.exfs L z hL
   exact ⟨hk,⟨L,_,hf,hn,e,hd⟩,ih (λb hb=>hs b (by unfold frs;rw[JR,hf];exact E8 _ hb)) hr⟩
 exact all X.outer (λ_ hb=>hb) I.ok.funs
theorem Inv.stack (I:Inv X pins σ H s):s.heap.FunFrames X.base X.stack:=by
 rcases I.ok.stk with e | ⟨e,hf⟩
 ·rw[e];exact I.funs
 ·rw[e]
  obtain ⟨m,hn,_⟩:=I.loc
  refine .cons (by rw[I.ok.kind];decide) hf hn ?_ I.funs
  exact Heap.get?_none_of_le (Ff I.ok.bsz I.ok.above)
theorem Inv.j8 (I:Inv X pins σ H s):∀b∈frs X.stack,b∈X.env.locals :: X.fs:=λb hb=>by
 rcases I.ok.stk with e | ⟨e,hf⟩
 ·rw[e] at hb;exact E8 _ hb
 ·rw[e] at hb
  unfold frs at hb
  rw[JR,hf] at hb
  exact hb
theorem Inv.pO (I:Inv X pins σ H s):∀b∈frs X.stack,H b=none:=λb hb=>by
 rcases EW.mp (I.j8 b hb) with e | hb
 ·rw[e];exact I.free
 ·obtain ⟨_,o,ho,_⟩:=I.ok.funs.mem hb
  exact I.base.free b o ho (I.ok.frf b hb) λz=>I.ok.exfs b z hb
theorem Inv.step {g':Array GenState}{t':Nat}{d':Drawn}{ch:List Addr}(I:Inv X pins σ H s)
  (hch:∀b∈ch,(b∈X.ex\/X.s₀.heap.objs.size<=b)/\b≠X.env.locals/\(∀x c,X.env.cells.lookup x=some c->c≠b)/\∀p∈X.pn++pins,p.1≠b)
  (keep:∀b o,b≠X.env.locals->b∉X.fs->b∉ch->s.heap.get? b=some o->H b=none->h'.get? b=some o)
  (slot:∀b o,b≠X.env.locals->b∈X.fs->b∉ch->s.heap.get? b=some o->H b=none->∃sl,h'.get? b=some { o with slots:=sl }) (free:∀b o,b∉ch->s.heap.get? b=some o->H b=none->H' b=none)
  (there:∀b o,b∉ch->s.heap.get? b=some o->∃o',h'.get? b=some o')
  (tups:∀b xs,H b=some (.tup xs)->H' b=some (.tup xs)) (frzs:∀b o u,H b=some (.frz o u)->H' b=some (.frz o u)) (tbls:∀b ps,H b=some (.tbl ps)->∃more,H' b=some (.tbl (ps++more)))
  (ns:∀m,s.heap.Ns X.env.locals m->h'.Ns X.env.locals m) (hok:HOk X.prog X.w H' h') (hg:AllBare g') :
  Inv X pins σ H' { s with heap:=h',gens:=g',drawn:=d',toks:=t' }:=by
 have neL:∀b o,X.s₀.heap.get? b=some o->b≠X.env.locals:=λb o e=>EY (EL (EN e) I.ok.above)
 have neC:∀b o,X.s₀.heap.get? b=some o->b∉X.ex->b∉ch:=λb o e hx hb=>by
  rcases (hch b hb).1 with z | z
  ·exact hx z
  ·exact absurd (EL (EN e) z) (Fl _)
 have cellK:∀x c,X.env.cells.lookup x=some c->∀v,s.heap.IsCell c v->h'.IsCell c v:=λx c e v ⟨o,ho,hd⟩=>by
  have nch:c∉ch:=λz=>(hch c z).2.2.1 x c e rfl
  by_cases hc:c∈X.fs
  ·obtain ⟨sl,q⟩:=slot c o (I.cne x c e) hc nch ho (I.freeC x c e)
   exact ⟨_,q,hd⟩
  ·exact ⟨o,keep c o (I.cne x c e) hc nch ho (I.freeC x c e),hd⟩
 refine ⟨I.ok,I.os,hg,⟨λb o e n hb hx =>?_,λb o e n hb hx =>?_,λb o e n hx =>?_,λb o e hx =>?_,λb xs e=>tups b xs (I.base.tups b xs e),λb o xs e=>frzs b o xs (I.base.frzs b o xs e),λb ps e =>?_⟩,?_,λx c e =>?_,?_,λx c e =>?_,λp hp =>?_,hok,I.len⟩
 ·exact keep b o (neL b o e) hb (neC b o e hx) (I.base.keep b o e n hb hx) (I.base.free b o e n hx)
 ·obtain ⟨sl,e1⟩:=I.base.slot b o e n hb hx
  obtain ⟨sl',e2⟩:=slot b _ (neL b o e) hb (neC b o e hx) e1 (I.base.free b o e n hx)
  exact ⟨sl',e2⟩
 ·obtain ⟨o',e1⟩:=I.base.there b o e hx
  exact free b o' (neC b o e hx) e1 (I.base.free b o e n hx)
 ·obtain ⟨o',e1⟩:=I.base.there b o e hx
  exact there b o' (neC b o e hx) e1
 ·obtain ⟨m1,e1⟩:=I.base.tbls b ps e
  obtain ⟨m2,e2⟩:=tbls b _ e1
  exact ⟨m1++m2,by rw[e2,Array.append_assoc]⟩
 ·obtain ⟨m,hn,hl⟩:=I.loc
  refine ⟨m,ns m hn,λi x v e1 e2 e3 =>?_⟩
  obtain ⟨u,r,l⟩:=hl i x v e1 e2 e3
  refine ⟨u,r,?_⟩
  rcases l with l | ⟨k,c,e,z⟩
  ·exact .inl l
  ·exact .inr ⟨k,c,e,cellK x c e _ z⟩
 ·obtain ⟨v,z⟩:=I.cell x c e
  exact ⟨v,cellK x c e v z⟩
 ·obtain ⟨m,⟨o,_,_,ho,_⟩,_⟩:=I.loc
  exact free _ o (λz=>(hch _ z).2.1 rfl) ho I.free
 ·obtain ⟨v,o,ho,hd⟩:=I.cell x c e
  exact free c o (λz=>(hch c z).2.2.1 x c e rfl) ho (I.freeC x c e)
 ·obtain ⟨e,n,ne,nf,d⟩:=I.pin p hp
  have nch:p.1∉ch:=λz=>(hch p.1 z).2.2.2 p hp rfl
  exact ⟨keep p.1 p.2 ne nf nch e n,free p.1 p.2 nch e n,ne,nf,d⟩
theorem Inv.un {t':Nat}(I:Inv X pins σ H s)(u:Un X.fs [] H H' s.heap h')(hok:HOk X.prog X.w H' h'):Inv X pins σ H' { s with heap:=h',toks:=t' }:=by
 obtain ⟨m,⟨o,es,ep,ho,r⟩,_⟩:=id I.loc
 obtain ⟨sl,hL⟩:=u.any ho I.free (by simp)
 exact I.step (g':=s.gens) (d':=s.drawn) (ch:=[]) (λ_ z=>nomatch z) (λb o _ hb _ e n=>u.keep b o e n hb (by simp)) (λb o _ hb _ e n=>u.slot b o e n hb (by simp)) (λb o _ e n=>u.free b o e n (by simp)) (λb o _ e=>u.there b o e (by simp)) u.tups u.frzs u.tbls (λm' hm=>by
  obtain ⟨o',es',ep',ho',r'⟩:=hm
  rw[ho] at ho';cases ho'
  exact ⟨_,es',ep',hL,r'⟩) hok I.bare
theorem Inv.call {g':Array GenState}{t':Nat}{d':Drawn}{ch:List Addr}(I:Inv X pins σ H s)(u:Un (frs X.stack) ch H H' s.heap h')(hok:HOk X.prog X.w H' h')(hg:AllBare g')
  (hch:∀b∈ch,(b∈X.ex\/X.s₀.heap.objs.size<=b)/\b≠X.env.locals/\(∀x c,X.env.cells.lookup x=some c->c≠b)/\∀p∈X.pn++pins,p.1≠b) :
  Inv X pins σ H' { s with heap:=h',gens:=g',drawn:=d',toks:=t' }:=by
 obtain ⟨m,⟨o,es,ep,ho,r⟩,_⟩:=id I.loc
 obtain ⟨sl,hL⟩:=u.any ho I.free λz=>(hch _ z).2.1 rfl
 exact I.step (ch:=ch) hch (λb o hL hb hc e n=>u.keep b o e n (λz=>(EW.mp (I.j8 b z)).elim hL hb) hc) (λb o _ _ hc e n=>u.any e n hc) (λb o hc e n=>u.free b o e n hc) (λb o hc e=>u.there b o e hc) u.tups u.frzs u.tbls (λm' hm=>by
  obtain ⟨o',es',ep',ho',r'⟩:=hm
  rw[ho] at ho';cases ho'
  exact ⟨_,es',ep',hL,r'⟩) hok hg
theorem Inv.turned {t':Nat}{it:Addr}(I:Inv X pins σ H s)(k:∀b o,b≠it->s.heap.get? b=some o->h'.get? b=some o)(hn:H it=none)(hL:it≠X.env.locals)
  (h1:it∈X.ex\/X.s₀.heap.objs.size<=it) (h2:∀x c,X.env.cells.lookup x=some c->c≠it) (h3:∀p∈X.pn++pins,p.1≠it):Inv X pins σ H { s with heap:=h',toks:=t' }:=by
 have nit:∀b u,H b=some u->b≠it:=λb u e z=>by rw[z,hn] at e;cases e
 refine I.step (g':=s.gens) (d':=s.drawn) (ch:=[it]) (λb hb =>?_) (λb o _ _ hc e _=>k b o (λz=>hc (by simp[z])) e) (λb o _ _ hc e _=>⟨o.slots,k b o (λz=>hc (by simp[z])) e⟩) (λ_ _ _ _ n=>n)
  (λb o hc e=>⟨o,k b o (λz=>hc (by simp[z])) e⟩) (λ_ _ e=>e) (λ_ _ _ e=>e) (λb ps e=>⟨#[],by rw[e];simp⟩) (λm hm =>?_) (λb u e =>?_) I.bare
 ·have e:b=it:=by simpa using hb
  subst e
  exact ⟨h1,hL,h2,h3⟩
 ·obtain ⟨o,es,ep,ho,r⟩:=hm
  exact ⟨o,es,ep,k _ o (Gn hL) ho,r⟩
 ·refine (I.hok b u e).stay (λc v hc q=>k c v ?_ q) (λ_ q=>q) λ_ _ q=>q
  rcases hc with z | z
  ·rw[z];exact nit b u e
  ·exact nit c _ z
theorem Inv.tok (I:Inv X pins σ H s)(t:Nat):Inv X pins σ H { s with toks:=t }:=I.un (h':=s.heap) (t':=t) Un.refl I.hok
theorem Inv.kept {t':Nat}(I:Inv X pins σ H s)(k:∀b u,s.heap.get? b=some u->h'.get? b=some u):Inv X pins σ H { s with heap:=h',toks:=t' }:=I.un (Un.kept k) (I.hok.kept k)
theorem Inv.laid {a:Addr}{o:HO}{t':Nat}(I:Inv X pins σ H s)(k:∀b u,s.heap.get? b=some u->h'.get? b=some u)(hp:s.heap.objs.size<=a)(new:ba X.prog X.w (upd H a o) h' a o) :
  Inv X pins σ (upd H a o) { s with heap:=h',toks:=t' }:=I.un (Un.laid k hp (I.hok.fresh hp)) (I.hok.laid k hp new)
theorem Inv.write {x e:Addr}{o:HO}{t':Nat}(I:Inv X pins σ H s)(mu:Mut (H x))(he:e=x\/H e=some (.own x))(k:∀b u,b≠e->s.heap.get? b=some u->h'.get? b=some u)(heo:∃u,h'.get? e=some u)
  (new:ba X.prog X.w (upd H x o) h' x o):Inv X pins σ (upd H x o) { s with heap:=h',toks:=t' }:=I.un (Un.write mu he k heo) (I.hok.write mu he k heo new)
theorem Inv.d9 {pins':List (Addr×Obj)}(I:Inv X pins σ H s)(h:∀p∈pins',s.heap.get? p.1=some p.2/\H p.1=none/\p.1≠X.env.locals/\p.1∉X.fs/\∀v,p.2.data ≠ .cell v):Inv X pins' σ H s :=
 ⟨I.ok,I.os,I.bare,I.base,I.loc,I.cell,I.free,I.freeC,λp hp=>(EU.mp hp).elim (λz=>I.pin p (F6 _ z)) (h p),I.hok,I.len⟩
theorem rl {N:List Str}(hN:N.Nodup){i j:Nat}{x:Str}(a:N[i]? = some x)(b:N[j]? = some x):i=j:=by
 obtain ⟨h1,e1⟩:=EJ.mp a
 obtain ⟨h2,e2⟩:=EJ.mp b
 exact (List.getElem_inj hN).mp (e1.trans e2.symm)
theorem wQ {M:Model}{A:FN}{E:EB->EG->Prop}{i:Nat}{x:Str}{v:V}{u:EB}{Q:Unit->EG->Prop}(I:Inv X pins σ H s)(hN:X.N.Nodup)(hi:X.N[i]? = some x)(hx:Loc X.env.scope x)(r:RelV v u)
  (h:∀s',Inv X pins (σ.set i (some v)) H s'->(∃a,Heap.SameBut a s.heap s'.heap/\(a=X.env.locals\/X.env.cells.lookup x=some a))->Q () s') (hf:X.fn x=true\/X.env.scope.names.lookup x=some .local:=by first | exact .inl rfl | exact .inr rfl | assumption):E4 M A (storeName X.env x u) Q E s:=by
 obtain ⟨m,hn,hl⟩:=id I.loc
 have hcls:(X.env.scope.kind == .class || (X.env.scope.kind == .module && X.env.locals != X.env.globals))=false:=by rw[I.ok.kind];rfl
 have hiσ:i<σ.length:=by rw[I.len];exact (EJ.mp hi).1
 have cne:=I.cne
 have tracked:∀{a:Addr} {h':Heap},(∃o,s.heap.get? a=some o/\H a=none)->Heap.SameBut a s.heap h'->HOk X.prog X.w H h':=λ{a h'} ha hs b ob e=>by
  obtain ⟨_,_,hfree⟩:=ha
  refine (I.hok b ob e).stay (λc w' hc q=>(hs.2 c ?_).trans q) (λ_ q=>q) λ_ _ q=>q
  rintro rfl
  rcases hc with rfl | hc
  ·rw[hfree] at e;cases e
  ·rw[hfree] at hc;cases hc
 rcases hx with hk | hk
 ·refine wpAny_storeName_local hk hn (λh' hn' hs =>?_) hcls
  obtain ⟨oL,_,_,hoL,_⟩:=id hn
  refine h _ ⟨I.ok,I.os,I.bare,⟨λb o e n hb hx =>?_,λb o e n hb hx =>?_,I.base.free,λb o e hx =>?_,I.base.tups,I.base.frzs,I.base.tbls⟩,⟨_,hn',λj y v' e1 e2 e3 =>?_⟩,λy c e =>?_,I.free,I.freeC,λp hp =>?_,tracked ⟨oL,hoL,I.free⟩ hs,by simpa using I.len⟩ ⟨_,hs,.inl rfl⟩
  ·exact (hs.2 b (EY (EL (EN e) I.ok.above))).trans (I.base.keep b o e n hb hx)
  ·obtain ⟨sl,e1⟩:=I.base.slot b o e n hb hx
   exact ⟨sl,(hs.2 b (EY (EL (EN e) I.ok.above))).trans e1⟩
  ·obtain ⟨o',e1⟩:=I.base.there b o e hx
   exact ⟨o',(hs.2 b (EY (EL (EN e) I.ok.above))).trans e1⟩
  ·by_cases hj:j=i
   ·subst hj
    rw[hi] at e1;cases e1
    rw[HH hiσ] at e2
    cases e2
    exact ⟨u,r,.inl ⟨hk,by simp⟩⟩
   ·rw[Hw (Gn hj)] at e2
    obtain ⟨u',r',q⟩:=hl j y v' e1 e2 e3
    refine ⟨u',r',?_⟩
    rcases q with ⟨k,e⟩ | ⟨k,c,e,z⟩
    ·refine .inl ⟨k,?_⟩
     have:y≠x:=λe=>hj (rl hN e1 (e ▸ hi))
     simp[this,e]
    ·exact .inr ⟨k,c,e,z.sameBut hs (cne y c e)⟩
  ·obtain ⟨w',z⟩:=I.cell y c e
   exact ⟨w',z.sameBut hs (cne y c e)⟩
  ·obtain ⟨e,n,ne,nf,d⟩:=I.pin p hp
   exact ⟨(hs.2 p.1 ne).trans e,n,ne,nf,d⟩
 ·have hfn:X.fn x=true:=by
   rcases hf with z | z
   ·exact z
   ·rw[z] at hk;cases hk
  obtain ⟨c,hc⟩:=I.ok.has x (.inl hk)
  obtain ⟨w',z⟩:=I.cell x c hc
  refine wpAny_storeName_cell I.ok.kind hk hc z (λh' hc' hs =>?_)
  obtain ⟨oc,hoc,hocd⟩:=id z
  refine h { s with heap:=h' } ⟨I.ok,I.os,I.bare,⟨λb o e n hb hx =>?_,λb o e n hb hx =>?_,I.base.free,λb o e hx =>?_,I.base.tups,I.base.frzs,I.base.tbls⟩,⟨m,hn.sameBut hs (Gn (cne x c hc)),λj y v' e1 e2 e3 =>?_⟩,λy c' e =>?_,I.free,I.freeC,λp hp =>?_,tracked ⟨oc,hoc,I.freeC x c hc⟩ hs,by simpa using I.len⟩ ⟨c,hs,.inr hc⟩
  ·exact (hs.2 b (EY (EL (EN e) (I.ok.cab x c hfn hc)))).trans (I.base.keep b o e n hb hx)
  ·obtain ⟨sl,e1⟩:=I.base.slot b o e n hb hx
   exact ⟨sl,(hs.2 b (EY (EL (EN e) (I.ok.cab x c hfn hc)))).trans e1⟩
  ·obtain ⟨o',e1⟩:=I.base.there b o e hx
   exact ⟨o',(hs.2 b (EY (EL (EN e) (I.ok.cab x c hfn hc)))).trans e1⟩
  ·by_cases hj:j=i
   ·subst hj
    rw[hi] at e1;cases e1
    rw[HH hiσ] at e2
    cases e2
    exact ⟨u,r,.inr ⟨.inl hk,c,hc,hc'⟩⟩
   ·rw[Hw (Gn hj)] at e2
    obtain ⟨u',r',q⟩:=hl j y v' e1 e2 e3
    refine ⟨u',r',?_⟩
    rcases q with q | ⟨k,c',e,z'⟩
    ·exact .inl q
    ·refine .inr ⟨k,c',e,z'.sameBut hs ?_⟩
     rintro rfl
     exact hj (rl hN e1 (I.ok.inj _ _ _ e hc ▸ hi))
  ·by_cases hcc:c'=c
   ·subst hcc;exact ⟨_,hc'⟩
   ·obtain ⟨w2,z2⟩:=I.cell y c' e
    exact ⟨w2,z2.sameBut hs hcc⟩
  ·obtain ⟨e,n,ne,nf,d⟩:=I.pin p hp
   refine ⟨(hs.2 p.1 ?_).trans e,n,ne,nf,d⟩
   intro q
   rw[q,hoc] at e
   have q':oc=p.2:=EX e
   exact d w' (by rw[<- q'];exact hocd)
theorem jA {M:Model}{A:FN}{E:EB->EG->Prop}{i:Nat}{x:Str}{v:V}{u:EB}{Q:Unit->EG->Prop}(I:Inv X pins σ H s)(hN:X.N.Nodup)(hi:X.N[i]? = some x)(hx:Loc X.env.scope x)(r:RelV v u)
  (h:∀s',Inv X pins (σ.set i (some v)) H s'->Q () s') (hf:X.fn x=true\/X.env.scope.names.lookup x=some .local:=by first | exact .inl rfl | exact .inr rfl | assumption):E4 M A (storeName X.env x u) Q E s :=
 wQ I hN hi hx r (λs' I' _=>h s' I') hf
theorem Inv.BY {s':EG}{ch:List Addr}(I:Inv X pins σ H s)(ho:s'.os=s.os)(u:Un (frs X.stack) ch H H' s.heap s'.heap)(hok:HOk X.prog X.w H' s'.heap)(hg:AllBare s'.gens)
  (hch:∀b∈ch,(b∈X.ex\/X.s₀.heap.objs.size<=b)/\b≠X.env.locals/\(∀x c,X.env.cells.lookup x=some c->c≠b)/\∀p∈X.pn++pins,p.1≠b):Inv X pins σ H' s':=by
 obtain ⟨h',g',d',t',o'⟩:=s'
 have e:o'=s.os:=ho
 subst e
 exact I.call (g':=g') (t':=t') (d':=d') u hok hg hch
end
abbrev XK:=EB->Option Addr->Hp->Prop
abbrev St:=List (Option V)
abbrev VK:=V->Hp->Prop
abbrev TE:=St->Hp->VK->Prop
abbrev TT:=St->Hp->(Bool->Hp->Prop)->Prop
abbrev TA:=St->Hp->(List V->Hp->Prop)->Prop
structure Ends where
 nx:St->Hp->Prop
 rt:VK
 bk:St->Hp->Prop:=λ_ _=>False
 ct:St->Hp->Prop:=λ_ _=>False
abbrev TS:=Ends->St->Hp->Prop
def EP (X:Cx)(pins:List (Addr×Obj))(σ:St)(Q:VK)(u:EB)(s':EG):Prop:=∃v H',Inv X pins σ H' s'/\RelV v u/\Q v H'
def TP (X:Cx)(pins:List (Addr×Obj))(σ:St)(Q:Bool->Hp->Prop)(b:Bool)(s':EG):Prop:=∃H',Inv X pins σ H' s'/\Q b H'
def AP (X:Cx)(pins:List (Addr×Obj))(σ:St)(Q:List V->Hp->Prop)(us:List EB)(s':EG):Prop:=∃vs H',Inv X pins σ H' s'/\Vals vs us/\Q vs H'
def SP (X:Cx)(pins:List (Addr×Obj))(D:Ends)(f:Flow)(s':EG):Prop :=
 match f with
 | .next=>∃σ' H',Inv X pins σ' H' s'/\D.nx σ' H'
 | .brk=>∃σ' H',Inv X pins σ' H' s'/\D.bk σ' H'
 | .cont=>∃σ' H',Inv X pins σ' H' s'/\D.ct σ' H'
 | .ret u=>∃v σ' H',Inv X pins σ' H' s'/\RelV v u/\D.rt v H'
def PE (X:Cx)(e:Expr)(t:TE):Prop :=
 ∀(pins:List (Addr×Obj)) (s:EG) (σ:St) (H:Hp) (Q:VK),Inv X pins σ H s->t σ H Q->E4 (Fq X.prog X.w) X.A (eval e X.env) (EP X pins σ Q) X.xe s
def PT (X:Cx)(e:Expr)(t:TT):Prop :=
 ∀(pins:List (Addr×Obj)) (s:EG) (σ:St) (H:Hp) (Q:Bool->Hp->Prop),Inv X pins σ H s->t σ H Q->E4 (Fq X.prog X.w) X.A (isTrue e X.env (eval e X.env)) (TP X pins σ Q) X.xe s
def PW (X:Cx)(e:Expr)(t:TT):Prop :=
 ∀(whole:Sem EB) (pins:List (Addr×Obj)) (s:EG) (σ:St) (H:Hp) (Q:Bool->Hp->Prop),Inv X pins σ H s->t σ H Q->E4 (Fq X.prog X.w) X.A (isTrue e X.env whole) (TP X pins σ Q) X.xe s
theorem PW.pt {X:Cx}{e:Expr}{t:TT}(h:PW X e t):PT X e t:=h _
def PA (X:Cx)(es:List Expr)(t:TA):Prop :=
 ∀(pos:Pos) (pins:List (Addr×Obj)) (s:EG) (σ:St) (H:Hp) (Q:List V->Hp->Prop),Inv X pins σ H s->t σ H Q->E4 (Fq X.prog X.w) X.A (spliced (Jn pos (FT es X.env))) (AP X pins σ Q) X.xe s
def PS (X:Cx)(st:Stmt)(t:TS):Prop :=
 ∀(pins:List (Addr×Obj)) (s:EG) (σ:St) (H:Hp) (D:Ends),Inv X pins σ H s->t D σ H->E4 (Fq X.prog X.w) X.A (exec st X.env) (SP X pins D) X.xe s
def PSs (X:Cx)(st:List Stmt)(t:TS):Prop :=
 ∀(pins:List (Addr×Obj)) (s:EG) (σ:St) (H:Hp) (D:Ends),Inv X pins σ H s->t D σ H->E4 (Fq X.prog X.w) X.A (execs st X.env) (SP X pins D) X.xe s
theorem thn {α:Type}{t:Sem α}{Q Q':α -> EG->Prop}{M:Model}{A:FN}{E:EB->EG->Prop}{s:EG}(h:E4 M A t Q E s)(hQ:∀a s,Q a s->Q' a s):E4 M A t Q' E s:=Hh h hQ λ_ _ x=>x
section
variable  {X:Cx}
theorem bin {a b:Expr}{ta tb:TE}(ha:PE X a ta)(hb:PE X b tb){pins:List (Addr×Obj)}{s:EG}{σ:St}{H:Hp}{R:V->V->Hp->Prop}(I:Inv X pins σ H s)(h:ta σ H λx H1=>tb σ H1 λy H2=>R x y H2)
  {α:Type} {Q:α -> EG->Prop} {f:EB->EB->Sem α}
  (hf:∀v u s2 x y H2,Inv X pins σ H2 s2->RelV x v->RelV y u->R x y H2->E4 (Fq X.prog X.w) X.A (f v u) Q X.xe s2) :
  E4 (Fq X.prog X.w) X.A (eval a X.env) (λv s₁=>E4 (Fq X.prog X.w) X.A (eval b X.env) (λu s₂=>E4 (Fq X.prog X.w) X.A (f v u) Q X.xe s₂) X.xe s₁) X.xe s:=by
 refine thn (ha pins s σ H _ I h) λv s1 ⟨x,H1,I1,r1,q1⟩ =>?_
 refine thn (hb pins s1 σ H1 _ I1 q1) λu s2 ⟨y,H2,I2,r2,q2⟩ =>?_
 exact hf v u s2 x y H2 I2 r1 r2 q2
def Dt (i:Nat):TE:=λσ H Q=>∃v,σ[i]? = some (some v)/\Q v H
def tC (v:V):TE:=λ_ H Q=>Q v H
theorem Cr {i:Nat}{x:Str}{pos:Pos}(hN:X.N[i]? = some x)(hv:Vis X.env.scope x)(hd:(x == ("__debug__" : Str))=false:=by decide)(hcd:(x == ("__classdict__" : Str))=false:=by decide):PE X (.Name x pos) (Dt i):=by
 intro pins s σ H Q I h
 obtain ⟨v,e,h⟩:=h
 obtain ⟨m,hn,hl⟩:=I.loc
 obtain ⟨u,r,l⟩:=hl i x v hN e hv
 have fin:EP X pins σ Q u s:=⟨v,H,I,r,h⟩
 rcases l with ⟨hk,hm⟩ | ⟨hk,c,hc,hcell⟩
 ·exact Nn (wpAny_loadName_local I.ok.kind hk hn hm fin) hd
 ·rcases hk with hk | hk
  ·exact Nn (wpAny_loadName_cell I.ok.kind hk hc hcell fin) hd
  ·exact Nn (wpAny_loadName_free I.ok.kind hk hc hcell fin hcd) hd
theorem ae {i j pos}:PE X (.Constant (.int i) j pos) (tC (.int i)):=λ_ _ _ H _ I h=>wpAny_Constant_int ⟨.int i,H,I.tok _,⟨_,rfl⟩,h⟩
theorem jB {b j pos}:PE X (.Constant (.bool b) j pos) (tC (.bl b)):=λ_ _ _ H _ I h=>Constant_bool ⟨.bl b,H,I,rfl,h⟩
theorem cU {j pos}:PE X (.Constant .none j pos) (tC .non):=λ_ _ _ H _ I h=>Constant_none ⟨.non,H,I,rfl,h⟩
theorem fL {x j pos}:PE X (.Constant (.str x) j pos) (tC (.str x)):=λ_ _ _ H _ I h=>Calls.Constant_str ⟨.str x,H,I.tok _,⟨_,rfl⟩,h⟩
def Gl (X:Cx)(x:Str):Prop:=X.env.kindOf x=some .globalImplicit
theorem u5 {E:EB->EG->Prop}{pins:List (Addr×Obj)}{s:EG}{σ:St}{H:Hp}{x:Str}{u:EB}{pos:Pos}{Q:EB->EG->Prop}(I:Inv X pins σ H s)(hg:Gl X x)(hm:X.mg x=some u)(h:Q u s)
  (hd:(x == ("__debug__" : Str))=false:=by decide):E4 (Fq X.prog X.w) X.A (eval (.Name x pos) X.env) Q E s :=
 J0 I.ok.kind hg (Calls.loadGlobal_global (by rw[I.ok.glob];exact I.mod.glob.keeps I.bk) hm h) hd
theorem eO {E:EB->EG->Prop}{pins:List (Addr×Obj)}{s:EG}{σ:St}{H:Hp}{x:Str}{u:EB}{pos:Pos}{Q:EB->EG->Prop}(I:Inv X pins σ H s)(hg:Gl X x)(hm:X.mg x=none)(hv:F1 x=some u)(h:Q u s)
  (hn:x ≠ "__name__" := by decide) (hd:(x == ("__debug__" : Str))=false:=by decide):E4 (Fq X.prog X.w) X.A (eval (.Name x pos) X.env) Q E s:=by
 obtain ⟨mb,h1,h2⟩:=I.mod.blt
 exact J0 I.ok.kind hg (Calls.loadGlobal_builtin (by rw[I.ok.glob];exact I.mod.glob.keeps I.bk) hm (by rw[I.ok.blt];exact h1.keeps I.bk) ((h2 x hn).trans hv) h) hd
theorem l7 {x:Str}{v:V}{u:EB}{pos:Pos}(hg:Gl X x)(hm:X.mg x=some u)(r:RelV v u)(hd:(x == ("__debug__" : Str))=false:=by decide):PE X (.Name x pos) (tC v) :=
 λ_ _ _ H _ I h=>u5 I hg hm ⟨v,H,I,r,h⟩ hd
theorem pP {x:Str}{v:V}{u:EB}{pos:Pos}(hg:Gl X x)(hm:X.mg x=none)(hv:F1 x=some u)(r:RelV v u)(hn:x ≠ "__name__" := by decide)(hd:(x == ("__debug__" : Str))=false:=by decide):PE X (.Name x pos) (tC v) :=
 λ_ _ _ H _ I h=>eO I hg hm hv ⟨v,H,I,r,h⟩ hn hd
variable  {a b:Expr}{ta tb:TE}{pos:Pos}
def PC (X:Cx)(op:CmpOp)(a b:Expr)(t:TE):Prop :=
 ∀(pins:List (Addr×Obj)) (s:EG) (σ:St) (H:Hp) (Q:VK),Inv X pins σ H s->t σ H Q →
  E4 (Fq X.prog X.w) X.A (eval a X.env) (λv s₁=>E4 (Fq X.prog X.w) X.A (eval b X.env) (λu s₂=>E4 (Fq X.prog X.w) X.A (Gw op v u) (EP X pins σ Q) X.xe s₂) X.xe s₁) X.xe s
theorem yu (b:Expr){op:CmpOp}(h:op ≠ .In)(h2:op ≠ .NotIn):behindInMarks op b=false:=by
 have e1:(op == CmpOp.In)=false:=by cases op <;> first | rfl | exact absurd rfl h
 have e2:(op == CmpOp.NotIn)=false:=by cases op <;> first | rfl | exact absurd rfl h2
 cases b <;> simp[behindInMarks,e1,e2]
def tB (t:TE):TT:=λσ H Q=>t σ H λx H1=>∃c,x = .bl c/\Q c H1
theorem dJ {op:CmpOp}{t:TE}(h:PC X op a b t)(h1:behindInMarks op b=false:=by first | exact yu _ (by decide) (by decide) | rfl):PT X (.Compare a [op] [b] pos) (tB t):=by
 intro pins s σ H Q I hw
 refine Lh (thn (h pins s σ H _ I hw) λv s1 h1=>thn h1 λu s2 h2=>thn h2 λc s3 ⟨x,H1,I1,r1,q1⟩ =>?_) h1
 obtain ⟨d,rfl,q⟩:=q1
 cases r1
 exact Gg ⟨H1,I1,q⟩
theorem eQ {e:Expr}{t:TE}(h:PE X e t)(he:∀whole,isTrue e X.env whole=(do let v ← whole;standAt e.pos;JJ [v] (truthy v)):=by intro _;rfl):PT X e (tB t):=by
  intro pins s σ H Q I hw
  refine isTrue_plain (thn (h pins s σ H _ I hw) λv s1 ⟨x,H1,I1,r1,q1⟩ =>?_) (he _)
  obtain ⟨d,rfl,q⟩:=q1
  cases r1
  exact Gg ⟨H1,I1,q⟩
variable  {tA tB':TT}{rest:List Expr}
def tAnd (t u:TT):TT:=λσ H Q=>t σ H λc H1=>if c=true then u σ H1 Q else Q false H1
def tOr (t u:TT):TT:=λσ H Q=>t σ H λc H1=>if c=true then Q true H1 else u σ H1 Q
def tNot (t:TT):TT:=λσ H Q=>t σ H λc H1=>Q (!c) H1
theorem bX (ha:PT X a tA):PW X (.BoolOp .And [a] pos) tA:=by
 intro wh pins s σ H Q I h
 refine isTrue_and (thn (ha pins s σ H Q I h) λc s1 e =>?_)
 cases c with
 | true=>exact isTrue_and_nil e
 | false=>exact e
theorem fM (ha:PT X a tA):PW X (.BoolOp .Or [a] pos) tA:=by
 intro wh pins s σ H Q I h
 refine isTrue_or (thn (ha pins s σ H Q I h) λc s1 e =>?_)
 cases c with
 | false=>exact isTrue_or_nil e
 | true=>exact e
theorem cK (ha:PT X a tA)(hb:PW X (.BoolOp .And (b :: rest) pos) tB'):PW X (.BoolOp .And (a :: b :: rest) pos) (tAnd tA tB'):=by
 intro wh pins s σ H Q I h
 refine isTrue_and (thn (ha pins s σ H _ I h) λc s1 ⟨H1,I1,q1⟩ =>?_)
 cases c with
 | true=>exact hb wh pins s1 σ H1 Q I1 q1
 | false=>exact ⟨H1,I1,q1⟩
theorem gm (ha:PT X a tA)(hb:PW X (.BoolOp .Or (b :: rest) pos) tB'):PW X (.BoolOp .Or (a :: b :: rest) pos) (tOr tA tB'):=by
 intro wh pins s σ H Q I h
 refine isTrue_or (thn (ha pins s σ H _ I h) λc s1 ⟨H1,I1,q1⟩ =>?_)
 cases c with
 | true=>exact ⟨H1,I1,q1⟩
 | false=>exact hb wh pins s1 σ H1 Q I1 q1
theorem gn (ha:PT X a tA):PT X (.UnaryOp .Not a pos) (tNot tA):=by
 intro pins s σ H Q I h
 exact isTrue_not (ha pins s σ H (λc H1=>Q (!c) H1) I h)
def Du (ta tb:TE):TE:=λσ H Q=>ta σ H λx H1=>∃c,x = .bl c/\if c=true then tb σ H1 Q else Q (.bl false) H1
def Dv (ta:TE):TE:=λσ H Q=>ta σ H λx H1=>∃c,x = .bl c/\Q (.bl (!c)) H1
theorem j9 {op}{t:TE}(h:PE X a t):PE X (.BoolOp op [a] pos) t:=λpins s σ H Q I hw=>BoolOp_one (h pins s σ H Q I hw)
theorem kg (ha:PE X a ta)(hb:PE X (.BoolOp .And (b :: rest) pos) tb):PE X (.BoolOp .And (a :: b :: rest) pos) (Du ta tb):=by
 intro pins s σ H Q I h
 refine BoolOp_and (thn (ha pins s σ H _ I h) λv s1 ⟨x,H1,I1,r1,q1⟩ =>?_)
 obtain ⟨c,rfl,q1⟩:=q1
 cases r1
 refine Gg ?_
 cases c with
 | true=>exact hb pins s1 σ H1 Q I1 q1
 | false=>exact ⟨.bl false,H1,I1,rfl,q1⟩
theorem Cs (ha:PE X a ta):PE X (.UnaryOp .Not a pos) (Dv ta):=by
 intro pins s σ H Q I h
 refine UnaryOp_ (thn (ha pins s σ H _ I h) λv s1 ⟨x,H1,I1,r1,q1⟩ =>?_)
 obtain ⟨c,rfl,q1⟩:=q1
 cases r1
 exact not_of (Gg ⟨.bl (!c),H1,I1,rfl,q1⟩)
end
def SqL (K:Ez)(H:Hp)(a:Addr)(xs:List V):Prop :=
 Rd H a (.lst xs) ∨
  ∃(o:Obj) (its:Array EB) (n:Nat),K.lookup a=some o/\o.cls = .type "list" /\ o.dict=none/\o.data = .seq its n/\its.size<=ES/\Vals xs its.toList
def SqT (K:Ez)(H:Hp)(a:Addr)(xs:List V):Prop :=
 Rd H a (.tup xs) ∨
  ∃(o:Obj) (its:Array EB) (n:Nat),K.lookup a=some o/\o.cls = .type "tuple" /\ o.data = .seq its n/\its.size<=ES/\Vals xs its.toList
def absV:EB->Option V
 | .none=>some .non
 | .bool b=>some (.bl b)
 | .int i _=>some (.int i)
 | .str x _=>some (.str x)
 | .bytes b _=>some (.byt b)
 | .float b _=>some (.flt b)
 | .ref a=>some (.ref a)
 | .type n=>some (.ty n)
 | _=>none
theorem RelV.abs {x:V}{u:EB}(r:RelV x u):absV u=some x:=by
 cases x with
 | non=>cases r;rfl
 | bl _=>cases r;rfl
 | int _=>obtain ⟨t,rfl⟩:=r;rfl
 | str _=>obtain ⟨t,rfl⟩:=r;rfl
 | byt _=>obtain ⟨t,rfl⟩:=r;rfl
 | flt _=>obtain ⟨t,rfl⟩:=r;rfl
 | ref _=>cases r;rfl
 | ty _=>cases r;rfl
theorem RelV.inj {x y:V}{u:EB}(r:RelV x u)(q:RelV y u):x=y:=EX (r.abs.symm.trans q.abs)
theorem Vals.inj:∀{xs ys:List V} {us:List EB},Vals xs us->Vals ys us->xs=ys
 | _,_,_,.nil,.nil=>rfl
 | _,_,_,.cons r t,.cons r' t'=>by rw[r.inj r',Vals.inj t t']
section
variable  {X:Cx}{pins:List (Addr×Obj)}{σ:St}{H:Hp}{s:EG}{a:Addr}{xs ys:List V}
theorem SqL.of {K:Ez}(h:H a=some (.lst xs)):SqL K H a xs :=.inl (.inl h)
theorem SqT.of {K:Ez}(h:H a=some (.tup xs)):SqT K H a xs :=.inl (.inl h)
theorem Inv.list (I:Inv X pins σ H s)(h:SqL X.K H a xs):∃its:List EB,Vals xs its/\PlainL s.heap a its.toArray/\xs.length<=ES:=by
 rcases h with h | ⟨o,its,n,hk,hc,hd,hs,hz,r⟩
 ·obtain ⟨z,its,n,r,e⟩:=h.ok I.hok
  exact ⟨its,r,⟨_,n,e,rfl,rfl,rfl⟩,z⟩
 ·refine ⟨its.toList,r,⟨o,n,I.kIn a o hk,hc,hd,by simpa using hs⟩,?_⟩
  have e:=r.length
  simp only[E3] at e
  lia
theorem Inv.tuple (I:Inv X pins σ H s)(h:SqT X.K H a xs):∃its:List EB,Vals xs its/\IsTup s.heap a its.toArray/\xs.length<=ES:=by
 rcases h with h | ⟨o,its,n,hk,hc,hs,hz,r⟩
 ·obtain ⟨z,its,r,p⟩:=h.ok I.hok
  exact ⟨its,r,p.tup,z⟩
 ·refine ⟨its.toList,r,⟨o,I.kIn a o hk,hc,n,by simpa using hs⟩,?_⟩
  have e:=r.length
  simp only[E3] at e
  lia
theorem Inv.mB (I:Inv X pins σ H s)(h:SqL X.K H a xs)(h':SqL X.K H a ys):xs=ys:=by
 obtain ⟨its,r,⟨o,n,e,_,_,d⟩,_⟩:=I.list h
 obtain ⟨its',r',⟨o',n',e',_,_,d'⟩,_⟩:=I.list h'
 rw[e] at e';cases e'
 rw[d] at d'
 injection d' with d1 _
 have:its=its':=by simpa using congrArg Array.toList d1
 subst this
 exact r.inj r'
theorem Inv.ic (I:Inv X pins σ H s)(h:SqT X.K H a xs)(h':SqT X.K H a ys):xs=ys:=by
 obtain ⟨its,r,⟨o,e,_,n,d⟩,_⟩:=I.tuple h
 obtain ⟨its',r',⟨o',e',_,n',d'⟩,_⟩:=I.tuple h'
 rw[e] at e';cases e'
 rw[d] at d'
 injection d' with d1 _
 have:its=its':=by simpa using congrArg Array.toList d1
 subst this
 exact r.inj r'
end
abbrev Cx.n5 (X:Cx)(E:EB->EG->Prop):Cx:={ X with xe:=E }
abbrev Cx.nox (X:Cx):Cx:=X.n5 λ_ _=>False
theorem Cx.Ok.n5 {X:Cx}(ok:X.Ok)(E:EB->EG->Prop):(X.n5 E).Ok :=
 ⟨ok.mod,ok.kind,ok.glob,ok.blt,ok.above,ok.inj,ok.has,ok.cab,ok.hd,ok.frames,ok.stk,ok.exf,ok.bs,ok.bsz,ok.noex,ok.exfs,ok.funs,ok.frf⟩
theorem Cx.Ok.gq {X:Cx}{E:EB->EG->Prop}(ok:(X.n5 E).Ok):X.Ok :=
 ⟨ok.mod,ok.kind,ok.glob,ok.blt,ok.above,ok.inj,ok.has,ok.cab,ok.hd,ok.frames,ok.stk,ok.exf,ok.bs,ok.bsz,ok.noex,ok.exfs,ok.funs,ok.frf⟩
section
variable  {X:Cx}{pins:List (Addr×Obj)}{σ:St}{H:Hp}{s:EG}{E:EB->EG->Prop}
theorem Inv.n5 (I:Inv X pins σ H s)(E:EB->EG->Prop):Inv (X.n5 E) pins σ H s:=⟨I.ok.n5 E,I.os,I.bare,I.base,I.loc,I.cell,I.free,I.freeC,I.pin,I.hok,I.len⟩
theorem Inv.gq (I:Inv (X.n5 E) pins σ H s):Inv X pins σ H s:=⟨I.ok.gq,I.os,I.bare,I.base,I.loc,I.cell,I.free,I.freeC,I.pin,I.hok,I.len⟩
theorem SP.gq {D:Ends}{f:Flow}{s':EG}(h:SP (X.n5 E) pins D f s'):SP X pins D f s':=by
 cases f with
 | next=>obtain ⟨σ',H',I,q⟩:=h;exact ⟨σ',H',I.gq,q⟩
 | brk=>obtain ⟨σ',H',I,q⟩:=h;exact ⟨σ',H',I.gq,q⟩
 | cont=>obtain ⟨σ',H',I,q⟩:=h;exact ⟨σ',H',I.gq,q⟩
 | ret u=>obtain ⟨v,σ',H',I,r,q⟩:=h;exact ⟨v,σ',H',I.gq,r,q⟩
theorem PSs.nox {st:List Stmt}{t:TS}(h:PSs X.nox st t):PSs X st t:=λpins s σ H D I hw =>
 Hh (h pins s σ H D (I.n5 _) hw) (λ_ _ q=>q.gq) λ_ _ z=>False.elim z
end
section
variable  {X:Cx}{st:Stmt}{rest:List Stmt}{t u:TS}{e:Expr}{te:TE}{pos:Pos}
def Dw:TS:=λD σ H=>D.nx σ H
def tSeq (t u:TS):TS:=λD σ H=>t { D with nx:=u D } σ H
theorem aM:PSs X [] Dw:=λ_ _ σ H _ I h=>JZ ⟨σ,H,I,h⟩
theorem ah (h1:PS X st t)(h2:PSs X rest u):PSs X (st :: rest) (tSeq t u):=by
 intro pins s σ H D I h
 refine wpAny_execs_cons (thn (h1 pins s σ H { D with nx:=u D } I h) λf s1 q =>?_)
 cases f with
 | next =>
  obtain ⟨σ',H',I',q⟩:=q
  exact h2 pins s1 σ' H' D I' q
 | ret v=>exact q
 | brk=>exact q
 | cont=>exact q
theorem aq (h1:PS X st t):PSs X [st] t:=by
 intro pins s σ H D I h
 refine wpAny_execs_cons (thn (h1 pins s σ H D I h) λf s1 q =>?_)
 cases f with
 | next=>exact JZ q
 | ret v=>exact q
 | brk=>exact q
 | cont=>exact q
theorem Inv.quiet {pins:List (Addr×Obj)}{σ:St}{H:Hp}{s:EG}(I:Inv X pins σ H s):interactive X.env=false:=by simp[interactive,I.ok.kind]
def Dx (te:TE):TS:=λD σ H=>te σ H λ_ H1=>D.nx σ H1
theorem da (he:PE X e te)(hs:swapsWith e none pos.line X.env=pure false:=by rfl):PS X (.Expr e pos) (Dx te):=by
 intro pins s σ H D I h
 exact wpAny_Expr_any (thn (he pins s σ H _ I h) λv s1 ⟨x,H1,I1,r1,q1⟩=>⟨σ,H1,I1,q1⟩) I.quiet hs
def tRet (te:TE):TS:=λD σ H=>te σ H D.rt
theorem aF (he:PE X e te):PS X (.Return (some e) pos) (tRet te):=by
 intro pins s σ H D I h
 exact wpAny_Return_some (thn (he pins s σ H _ I h) λv s1 ⟨x,H1,I1,r1,q1⟩=>⟨x,σ,H1,I1,r1,q1⟩)
def Dy (c:TT)(t u:TS):TS:=λD σ H=>c σ H λb H1=>if b=true then t D σ H1 else u D σ H1
theorem aU {c:Expr}{a b:List Stmt}{tc:TT}(hc:PT X c tc)(ha:PSs X a t)(hb:PSs X b u):PS X (.If c a b pos) (Dy tc t u):=by
 intro pins s σ H D I h
 refine wpAny_If (thn (hc pins s σ H _ I h) λd s1 ⟨H1,I1,q1⟩ =>?_)
 cases d with
 | true=>exact ha pins s1 σ H1 D I1 q1
 | false=>exact hb pins s1 σ H1 D I1 q1
def Ct:TS:=λ_ _ _=>False
theorem kh {sts:List Stmt}:PSs X sts Ct:=λ_ _ _ _ _ _ h=>h.elim
end
abbrev TG:=V->St->Hp->(St->Hp->Prop)->Prop
abbrev TGs:=List V->St->Hp->(St->Hp->Prop)->Prop
def PG (X:Cx)(target:Expr)(t:TG):Prop :=
 ∀(pins:List (Addr×Obj)) (s:EG) (σ:St) (H:Hp) (v:V) (u:EB) (Q:St->Hp->Prop),Inv X pins σ H s->RelV v u->t v σ H Q →
  E4 (Fq X.prog X.w) X.A (assign target X.env u) (λ_ s'=>∃σ' H',Inv X pins σ' H' s'/\Q σ' H') X.xe s
def PGs (X:Cx)(ts:List Expr)(t:TGs):Prop :=
 ∀(pins:List (Addr×Obj)) (s:EG) (σ:St) (H:Hp) (vs:List V) (us:List EB) (Q:St->Hp->Prop),Inv X pins σ H s->Vals vs us->t vs σ H Q →
  E4 (Fq X.prog X.w) X.A (assignInOrder ((assignEach ts X.env).map (·.2)) us) (λ_ s'=>∃σ' H',Inv X pins σ' H' s'/\Q σ' H') X.xe s
abbrev yv:=V->V->V->Hp->(Hp->Prop)->Prop
def Cu (X:Cx)(t:yv):Prop :=
 ∀(pins:List (Addr×Obj)) (s:EG) (σ:St) (H:Hp) (o i v:V) (ov iv u:EB) (Q:Hp->Prop),Inv X pins σ H s->RelV o ov->RelV i iv->RelV v u->t o i v H Q →
  E4 (Fq X.prog X.w) X.A (setItem ov iv u) (λ_ s'=>∃H',Inv X pins σ H' s'/\Q H') X.xe s
abbrev TIp:=V->V->Hp->VK->Prop
def PIp (X:Cx)(op:Operator)(t:TIp):Prop :=
 ∀(pins:List (Addr×Obj)) (s:EG) (σ:St) (H:Hp) (x y:V) (v u:EB) (Q:VK),Inv X pins σ H s->RelV x v->RelV y u->t x y H Q →
  E4 (Fq X.prog X.w) X.A (inplaceOp op v u) (EP X pins σ Q) X.xe s
section
variable  {X:Cx}{pos:Pos}
def jC (i:Nat):TG:=λv σ H Q=>Q (σ.set i (some v)) H
theorem aE {i:Nat}{x:Str}(hN:X.N.Nodup)(hi:X.N[i]? = some x)(hx:Loc X.env.scope x)(hf:X.fn x=true\/X.env.scope.names.lookup x=some .local:=by first | exact .inl rfl | exact .inr rfl | assumption):PG X (.Name x pos) (jC i):=by
 intro pins s σ H v u Q I r h
 exact wpAny_assign_Name (jA I hN hi hx r (λs' I'=>⟨_,H,I',h⟩) hf)
def Dz:TGs:=λvs σ H Q=>vs=[]/\Q σ H
def yx (t:TG)(u:TGs):TGs:=λvs σ H Q=>∃v r,vs=v :: r/\t v σ H λσ' H'=>u r σ' H' Q
theorem jD:PGs X [] Dz:=by
 intro pins s σ H vs us Q I r h
 obtain ⟨e,h⟩:=h
 subst e
 cases r
 exact Mu ⟨σ,H,I,h⟩
theorem bY {e:Expr}{es:List Expr}{t:TG}{u:TGs}(h1:PG X e t)(h2:PGs X es u)
  (hs:(assignEach (e :: es) X.env).map (·.2)=assign e X.env :: (assignEach es X.env).map (·.2):=by rfl):PGs X (e :: es) (yx t u):=by
 intro pins s σ H vs us Q I r h
 obtain ⟨v,vr,e1,h⟩:=h
 subst e1
 cases r with
 | cons r rr =>
  rw[hs]
  refine Kh (thn (h1 pins s σ H _ _ _ I r h) λ_ s1 ⟨σ1,H1,I1,q1⟩ =>?_)
  exact h2 pins s1 σ1 H1 _ _ Q I1 rr q1
def DA (K:Ez)(n:Nat)(t:TGs):TG:=λv σ H Q=>∃a xs,v = .ref a/\SqT K H a xs/\xs.length=n/\t xs σ H Q
theorem mC {es:List Expr}{k:Nat}{t:TGs}{n:Nat}(hc:X.calm=true)(h:PGs X es t)
  (hn:(assignEach es X.env).length=n:=by rfl) (hst:(assignEach es X.env).findIdx? (·.1)=none:=by rfl):PG X (.Tuple es k pos) (DA X.K n t):=by
 intro pins s σ H v u Q I r hw
 obtain ⟨a,xs,e1,hq,hl,hw⟩:=hw
 subst e1
 cases r
 obtain ⟨its,rv,ht,hz⟩:=I.tuple hq
 refine assign_Tuple_tuple (I.ok.hd hc) ht (by simp[hn, <- hl,rv.length]) hst λh' hx =>?_
 have I1:Inv X pins σ H { s with heap:=h' }:=I.kept (t':=s.toks) λb o e=>hx b o (EY (EN e)) e
 exact h pins _ σ H xs _ Q I1 (by simpa using rv) hw
def gSub (to ti:TE)(t:yv):TG:=λv σ H Q=>to σ H λo H1=>ti σ H1 λi H2=>t o i v H2 λH3=>Q σ H3
theorem pQ {o i:Expr}{to ti:TE}{t:yv}(ho:PE X o to)(hi:PE X i ti)(hs:Cu X t)
    (ha:∀v,assign (.Subscript o i pos) X.env v=(do
      let ov ← JJ [v] (eval o X.env)
      let iv ← JJ [v,ov] (eval i X.env)
      standAt pos
      JJ [v,ov,iv] (setItem ov iv v)
      release [v,ov,iv] []):=by intro _;rfl):PG X (.Subscript o i pos) (gSub to ti t):=by
  intro pins s σ H v u Q I r h
  rw[ha]
  refine Ew (F0 (thn (ho pins s σ H _ I h) λov s1 ⟨x,H1,I1,r1,q1⟩ =>?_))
  refine Ew (F0 (thn (hi pins s1 σ H1 _ I1 q1) λiv s2 ⟨y,H2,I2,r2,q2⟩ =>?_))
  refine Ew (Jj (Ew (F0 (thn (hs pins s2 σ H2 x y v ov iv u _ I2 r1 r2 r q2) λ_ s3 ⟨H3,I3,q3⟩ =>?_))))
  exact wpAny_release ⟨σ,H3,I3,q3⟩
def Cv (te:TE)(g:TG):TS:=λD σ H=>te σ H λx H1=>g x σ H1 D.nx
theorem ki {tg e:Expr}{te:TE}{g:TG}(he:PE X e te)(hg:PG X tg g)(hs:swapsWithSole [tg] e pos.line X.env=pure false:=by rfl)(hw:swappedStores [tg] e X.env=pure none:=by rfl)
  (h1:(assignEach [tg] X.env).map (·.2)=[assign tg X.env]:=by rfl):PS X (.Assign [tg] e pos) (Cv te g):=by
 intro pins s σ H D I h
 refine wpAny_Assign_stores (thn (he pins s σ H _ I h) λv s1 ⟨x,H1,I1,r1,q1⟩ =>?_) hs hw
 rw[h1]
 exact thn (hg pins s1 σ H1 x v _ I1 r1 q1) λ_ s2 q=>q
theorem aB {i:Nat}{x:Str}{e:Expr}{te:TE}{pos':Pos}(hN:X.N.Nodup)(hi:X.N[i]? = some x)(hx:Loc X.env.scope x)(he:PE X e te)(hs:swapsWith e (some (.Name x pos')) pos.line X.env=pure false:=by rfl)(hf:X.fn x=true\/X.env.scope.names.lookup x=some .local:=by first | exact .inl rfl | exact .inr rfl | assumption) :
  PS X (.Assign [.Name x pos'] e pos) (Cv te (jC i)):=by
 intro pins s σ H D I h
 refine wpAny_Assign_Name (thn (he pins s σ H _ I h) λv s1 ⟨y,H1,I1,r1,q1⟩ =>?_) hs
 exact jA I1 hN hi hx r1 (λs2 I2=>⟨_,H1,I2,q1⟩) hf
def tPar (i j:Nat)(ta:TA):TS:=λD σ H=>ta σ H λvs H1=>∃v w,vs=[v,w]/\D.nx ((σ.set i (some v)).set j (some w)) H1
theorem yy {i j:Nat}{x y:Str}{a b:Expr}{ta:TA}{px py pt:Pos}{kt k2 pt2}(hc:X.calm=true)(hN:X.N.Nodup)(hi:X.N[i]? = some x)(hj:X.N[j]? = some y)(hij:i≠j)
    (hx:X.env.scope.names.lookup x=some .local) (hy:X.env.scope.names.lookup y=some .local) (ha:PA X [a,b] ta)
    (hw:swappedStores [.Tuple [.Name x px,.Name y py] kt pt] (.Tuple [a,b] k2 pt2) X.env=pure (some [x,y]))
    (hs:swapsWithSole [.Tuple [.Name x px,.Name y py] kt pt] (.Tuple [a,b] k2 pt2) pos.line X.env=pure false:=by rfl) :
    PS X (.Assign [.Tuple [.Name x px,.Name y py] kt pt] (.Tuple [a,b] k2 pt2) pos) (tPar i j ta):=by
  intro pins s σ H D I h
  rw[exec_Assign_arm]
  refine Ew (Jj ?_)
  rw[hs]
  refine Ew (EC ?_)
  rw[if_neg (by decide)]
  refine Ew (Tuple_ (thn (ha _ pins s σ H _ I h) λus s1 ⟨vs,H1,I1,r1,q1⟩ =>?_))
  obtain ⟨v,w,e1,q1⟩:=q1
  subst e1
  obtain ⟨u1,u2,rfl,rv,rw'⟩:∃u1 u2,us=[u1,u2]/\RelV v u1/\RelV w u2:=by
    cases r1 with
    | cons p q =>
      cases q with
      | cons p' q' =>
        cases q'
        exact ⟨_,_,rfl,p,p'⟩
  refine Ft ?_ (by show 2<=ES;decide)
  have I2:Inv X pins σ H1 { s1 with heap:=s1.heap.push { cls :=.type "tuple",data :=.seq [u1,u2].toArray } }:=I1.kept (t':=s1.toks) λb o e=>Ey _ e
  rw[hw]
  refine Ew (EC ?_)
  show E4 (Fq X.prog X.w) X.A (do rule "assign.swapped-stores";let items ← unpackItems (.ref s1.heap.objs.size) 2 none;assignInOrder [λv=>bindName X.env y v,λv=>bindName X.env x v] items.reverse;pure Flow.next) _ _ _
  refine Ew (HC (Ew (unpackItems_tuple (items := #[u1,u2]) (I.ok.hd hc) (IsTup.new s1.heap _) λh' hx' =>?_)))
  have I3:=I2.kept (h':=h') (t':=s1.toks) λb o e=>hx' b o (EY (EN e)) e
  show E4 _ _ (assignInOrder [λv=>bindName X.env y v,λv=>bindName X.env x v] [u2,u1] >>= λ_=>pure Flow.next) _ _ _
  refine Ew (Kh (wpAny_bindName (jA I3 hN hj (.inl hy) rw' (λs2 I4 =>?_) (.inr hy))))
  refine Kh (wpAny_bindName (jA I4 hN hi (.inl hx) rv (λs3 I5=>Mu (EC ?_)) (.inr hx)))
  rw[Nq _ _ (Gn hij)] at I5
  exact ⟨_,H1,I5,q1⟩
def DB (to ti te:TE)(tget:V->V->Hp->VK->Prop)(tip:TIp)(tset:yv):TS:=λD σ H=>to σ H λo H1=>ti σ H1 λi H2=>tget o i H2 λx H3=>te σ H3 λy H4=>tip x y H4 λz H5=>tset o i z H5 λH6=>D.nx σ H6
def DC (X:Cx)(t:V->V->Hp->VK->Prop):Prop :=
 ∀(pins:List (Addr×Obj)) (s:EG) (σ:St) (H:Hp) (o i:V) (ov iv:EB) (Q:VK),Inv X pins σ H s->RelV o ov->RelV i iv->t o i H Q →
  E4 (Fq X.prog X.w) X.A (getItem ov iv) (EP X pins σ Q) X.xe s
theorem u6 {o i e:Expr}{to ti te:TE}{tget:V->V->Hp->VK->Prop}{tip:TIp}{tset:yv}{op:Operator}{tpos:Pos}(ho:PE X o to)(hi:PE X i ti)(hg:DC X tget)(he:PE X e te)(hp:PIp X op tip)(hs:Cu X tset)
    (ha:∀ov iv new,augStore i ov iv new=(do JJ [new,ov,iv] (setItem ov iv new);release [new,ov,iv] [];pure .next):=by intros;rfl):PS X (.AugAssign (.Subscript o i tpos) op e pos) (DB to ti te tget tip tset):=by
  intro pins s σ H D I h
  refine wpAny_AugAssign_SubscriptAny (thn (ho pins s σ H _ I h) λov s1 ⟨x1,H1,I1,r1,q1⟩ =>?_) ha
  refine thn (hi pins s1 σ H1 _ I1 q1) λiv s2 ⟨x2,H2,I2,r2,q2⟩ =>?_
  refine thn (hg pins s2 σ H2 x1 x2 ov iv _ I2 r1 r2 q2) λold s3 ⟨x3,H3,I3,r3,q3⟩ =>?_
  refine thn (he pins s3 σ H3 _ I3 q3) λv s4 ⟨x4,H4,I4,r4,q4⟩ =>?_
  refine thn (hp pins s4 σ H4 x3 x4 old v _ I4 r3 r4 q4) λnew s5 ⟨x5,H5,I5,r5,q5⟩ =>?_
  exact thn (hs pins s5 σ H5 x1 x2 x5 ov iv new _ I5 r1 r2 r5 q5) λ_ s6 ⟨H6,I6,q6⟩=>⟨σ,H6,I6,q6⟩
def ipI (f:Int->Int->Int):TIp:=λx y H Q=>∃i j,x = .int i/\y = .int j/\Q (.int (f i j)) H
theorem yz:PIp X .Add (ipI λi j=>i+j):=by
 intro pins s σ H x y v u Q I r1 r2 h
 obtain ⟨i,j,e1,e2,q⟩:=h
 subst e1;subst e2
 obtain ⟨t,rfl⟩:=r1
 obtain ⟨t',rfl⟩:=r2
 exact iadd_int ⟨.int _,H,I.tok _,⟨_,rfl⟩,q⟩
end
section
variable  {X:Cx}{pos:Pos}
def yA (c:TT)(tb:TS):TS:=λD σ H=>∃W:Nat->St->Hp->Prop,(∃m,W m σ H)/\∀m σ H,W m σ H →
 c σ H λb H1=>if b=true then ∃N:St->Hp->Prop,(∀σ' H',N σ' H'->∃m',m'<m/\W m' σ' H')/\tb { D with nx:=N,ct:=N,bk:=D.nx } σ H1 else D.nx σ H1
theorem gr {c:Expr}{body:List Stmt}{tc:TT}{tb:TS}(hp:PassesOwn (Fq X.prog X.w) X.A X.env X.xe)(hc:PT X c tc)(hb:PSs X body tb):PS X (.While c body [] pos) (yA tc tb):=by
 intro pins s σ H D I h
 obtain ⟨W,⟨m0,w0⟩,turn⟩:=h
 refine wpAny_While (codeAny_whileLoop (λn s'=>∃σ' H',Inv X pins σ' H' s'/\W n σ' H') ?_ m0 ⟨σ,H,I,w0⟩)
 rintro n s1 ⟨σ1,H1,I1,w1⟩
 refine Ie hp (thn (hc pins s1 σ1 H1 _ I1 (turn n σ1 H1 w1)) λb s2 ⟨H2,I2,q2⟩ =>?_)
 cases b with
 | true =>
  obtain ⟨N,hN,q2⟩:=q2
  rw[if_pos rfl]
  refine Ie hp (thn (hb pins s2 σ1 H2 _ I2 q2) λf s3 q3 =>?_)
  cases f with
  | next =>
   obtain ⟨σ3,H3,I3,n3⟩:=q3
   obtain ⟨m',hm,w3⟩:=hN σ3 H3 n3
   exact ⟨m',hm,σ3,H3,I3,w3⟩
  | cont =>
   obtain ⟨σ3,H3,I3,n3⟩:=q3
   obtain ⟨m',hm,w3⟩:=hN σ3 H3 n3
   exact ⟨m',hm,σ3,H3,I3,w3⟩
  | brk=>exact q3
  | ret v=>exact q3
 | false =>
  rw[if_neg EO]
  exact JZ ⟨σ1,H2,I2,q2⟩
end
structure It where
 go:Nat->Hp->Prop
 yld:Nat->Hp->V->Hp->Prop
 stop:Nat->Hp->Prop
def gs (X:Cx)(pins:List (Addr×Obj))(H:Hp)(b:Addr):Prop :=
 H b=none/\b≠X.env.locals/\b∉X.fs/\(b∈X.ex\/X.s₀.heap.objs.size<=b)/\(∀x c,X.env.cells.lookup x=some c->c≠b)/\∀p∈X.pn++pins,p.1≠b
theorem Inv.wR {X:Cx}{pins:List (Addr×Obj)}{σ:St}{H H':Hp}{s:EG}{b:Addr}(I:Inv X pins σ H s)(hb:s.heap.objs.size<=b)(hn:H' b=none):gs X pins H' b:=by
 refine ⟨hn,GZ (EL I.lt hb),I.yt hb,.inr (Ff I.sz hb),λx c e z =>?_,λp hp z =>?_⟩
 ·obtain ⟨v,q⟩:=I.cell x c e
  exact absurd (EL q.lt (by rw[z];exact hb)) (Fl _)
 ·exact absurd (EL (EN (I.pin p hp).1) (by rw[z];exact hb)) (Fl _)
structure Turn (P:EV)(w:Fm)(K:Ez)(tg:Expr)(J:It)(fp:List Addr)(it:Addr)(tn:Nat->Heap->Prop):Prop where
 mem:it∈fp
 obj:∀i h,tn i h->∀b∈fp,∃o,h.get? b=some o/\∀v,o.data ≠ .cell v
 keep:∀i h h',tn i h->(∀b∈fp,∀o,h.get? b=some o->h'.get? b=some o)->tn i h'
 item:∀(X:Cx),X.prog=P->X.w=w->X.K=K->X.calm=true->∀(i:Nat) (pins:List (Addr×Obj)) (s:EG) (σ:St) (H:Hp) (E:EB->EG->Prop),Inv X pins σ H s->(∀b∈fp,gs X pins H b)->tn i s.heap->J.go i H →
  E4 (Fq P w) X.A (pyNext (.ref it)) (λr s1=>∃u,r=some u ∧
   E4 (Fq P w) X.A (letOwnedTupleGo tg (.ref it) u) (λ_ s2=>∃x H',Inv X pins σ H' s2/\RelV x u/\J.yld i H x H'/\tn (i+1) s2.heap/\∀b∈fp,H' b=none) E s1) E s
 done:∀(X:Cx),X.prog=P->X.w=w->X.K=K->X.calm=true->∀(i:Nat) (pins:List (Addr×Obj)) (s:EG) (σ:St) (H:Hp) (E:EB->EG->Prop),Inv X pins σ H s->(∀b∈fp,gs X pins H b)->tn i s.heap->J.stop i H →
  E4 (Fq P w) X.A (pyNext (.ref it)) (λr s1=>r=none/\Inv X pins σ H s1) E s
 self:∀(A:FN) (i:Nat) (s:EG) (Q:EB->EG->Prop) (E:EB->EG->Prop),tn i s.heap->Q (.ref it) s->E4 (Fq P w) A (pyIter (.ref it)) Q E s
abbrev TI:=St->Hp->(It->Hp->Prop)->Prop
def PIE (X:Cx)(pins:List (Addr×Obj))(σ:St)(tg:Expr)(R:It->Hp->Prop)(itv:EB)(s2:EG):Prop :=
 ∃(it:Addr) (fp:List Addr) (tn:Nat->Heap->Prop) (J:It) (H':Hp),itv = .ref it/\Inv X pins σ H' s2/\Turn X.prog X.w X.K tg J fp it tn/\tn 0 s2.heap/\(∀b∈fp,gs X pins H' b)/\R J H'
def PI (X:Cx)(tg iter:Expr)(wi:TI):Prop :=
 ∀(pins:List (Addr×Obj)) (s:EG) (σ:St) (H:Hp) (R:It->Hp->Prop),Inv X pins σ H s->wi σ H R →
  E4 (Fq X.prog X.w) X.A (eval iter X.env) (λv s1=>E4 (Fq X.prog X.w) X.A (pyIter v) (PIE X pins σ tg R) X.xe s1) X.xe s
theorem yB {M:Model}{A:FN}{E:EB->EG->Prop}{s:EG}{tg:Expr}{it:Addr}{u:EB}{o:Obj}{n:String}{vs:Array EB}{Q:Unit->EG->Prop}(ho:s.heap.get? it=some o)(hc:o.cls = .type n)(hd:o.data = .fields vs)
    (hn:["enumerate", "zip", "dict_itemiterator", "dict_reverseitemiterator", "odict_iterator", "itertools.zip_longest", "itertools.pairwise"].contains n=false) (hQ:Q () s):E4 M A (letOwnedTupleGo tg (.ref it) u) Q E s:=by
  unfold letOwnedTupleGo
  cases tg <;> first
    | exact EC hQ
    | (cases u <;> first
        | exact EC hQ
        | (refine Ew (Mv ho ?_)
           rw[hc,hd]
           show E4 M A (if (["enumerate", "zip", "dict_itemiterator", "dict_reverseitemiterator", "odict_iterator", "itertools.zip_longest", "itertools.pairwise"].contains n && vs[0]? == some (Ih _))=true then _ else _) Q E s
           rw[if_neg (by intro h;rw[hn,GW] at h;cases h)]
           exact EC hQ))
def Itl (K:Ez)(a:Addr):It :=
 ⟨λi H=>∃xs x,SqL K H a xs/\xs[i]? = some x,λi H x H'=>H'=H/\∀xs,SqL K H a xs->xs[i]? = some x,λi H=>∃xs,SqL K H a xs/\xs.length<=i⟩
def Itt (K:Ez)(a:Addr):It :=
 ⟨λi H=>∃xs x,SqT K H a xs/\xs[i]? = some x,λi H x H'=>H'=H/\∀xs,SqT K H a xs->xs[i]? = some x,λi H=>∃xs,SqT K H a xs/\xs.length<=i⟩
def Itr (lo:Int)(n:Nat):It:=⟨λi _=>i<n,λi H x H'=>H'=H/\x = .int (lo+i),λi _=>n<=i⟩
theorem oB {P:EV}{w:Fm}{K:Ez}{tg:Expr}(a it:Addr):Turn P w K tg (Itl K a) [it] it (λi h=>h.IsListIter it a i) where
 mem:=by simp
 obj:=λi h st b hb=>by
  have e:b=it:=by simpa using hb
  subst e
  obtain ⟨o,e,c,d⟩:=st
  exact ⟨o,e,λv z=>by rw[d] at z;cases z⟩
 keep:=λi h h' st k=>st.at λo e=>k it (by simp) o e
 item:=by
  intro X hP hw hK hc i pins s σ H E I hf st hg
  subst hP hw hK
  obtain ⟨xs,x,hq,hx⟩:=hg
  obtain ⟨its,rv,p,hz⟩:=I.list hq
  obtain ⟨u,hu,ru⟩:=rv.get hx
  obtain ⟨f0,f1,f2,f3,f4,f5⟩:=hf it (by simp)
  refine wpAny_pyNext_list_item st p.isList (x:=u) (by simpa using hu) λh' st' sb =>?_
  have I1:Inv X pins σ H { s with heap:=h' }:=I.turned (t':=s.toks) (λb o hb e=>(sb.2 b hb).trans e) f0 f1 f3 f4 f5
  obtain ⟨o,e,c,d⟩:=id st'
  exact ⟨u,rfl,yB (s:={ s with heap:=h' }) e c d (by decide) ⟨x,H,I1,ru,⟨rfl,λys hy=>by rw[I.mB hy hq];exact hx⟩,st',λb hb=>(hf b hb).1⟩⟩
 done:=by
  intro X hP hw hK hc i pins s σ H E I hf st hg
  subst hP hw hK
  obtain ⟨xs,hq,hx⟩:=hg
  obtain ⟨its,rv,p,hz⟩:=I.list hq
  obtain ⟨f0,f1,f2,f3,f4,f5⟩:=hf it (by simp)
  have hl:=rv.length
  exact wpAny_pyNext_list_end (I.ok.hd hc) st p.isList (by simp;lia) λh' eb=>⟨rfl,I.turned (t':=s.toks) (λb o hb e=>eb b o hb e) f0 f1 f3 f4 f5⟩
 self:=λ_ _ _ _ _ st h=>wpAny_pyIter_listiter st h
theorem mD {P:EV}{w:Fm}{K:Ez}{tg:Expr}(a it:Addr):Turn P w K tg (Itt K a) [it] it (λi h=>h.IsTupleIter it a i) where
 mem:=by simp
 obj:=λi h st b hb=>by
  have e:b=it:=by simpa using hb
  subst e
  obtain ⟨o,e,c,d⟩:=st
  exact ⟨o,e,λv z=>by rw[d] at z;cases z⟩
 keep:=λi h h' st k=>st.at λo e=>k it (by simp) o e
 item:=by
  intro X hP hw hK hc i pins s σ H E I hf st hg
  subst hP hw hK
  obtain ⟨xs,x,hq,hx⟩:=hg
  obtain ⟨its,rv,p,hz⟩:=I.tuple hq
  obtain ⟨u,hu,ru⟩:=rv.get hx
  obtain ⟨f0,f1,f2,f3,f4,f5⟩:=hf it (by simp)
  refine wpAny_pyNext_tuple_item st (show s.heap.IsTuple a its.toArray from p) (x:=u) (by simpa using hu) λh' st' sb =>?_
  have I1:Inv X pins σ H { s with heap:=h' }:=I.turned (t':=s.toks) (λb o hb e=>(sb.2 b hb).trans e) f0 f1 f3 f4 f5
  obtain ⟨o,e,c,d⟩:=id st'
  exact ⟨u,rfl,yB (s:={ s with heap:=h' }) e c d (by decide) ⟨x,H,I1,ru,⟨rfl,λys hy=>by rw[I.ic hy hq];exact hx⟩,st',λb hb=>(hf b hb).1⟩⟩
 done:=by
  intro X hP hw hK hc i pins s σ H E I hf st hg
  subst hP hw hK
  obtain ⟨xs,hq,hx⟩:=hg
  obtain ⟨its,rv,p,hz⟩:=I.tuple hq
  obtain ⟨f0,f1,f2,f3,f4,f5⟩:=hf it (by simp)
  have hl:=rv.length
  exact wpAny_pyNext_tuple_end (I.ok.hd hc) st (show s.heap.IsTuple a its.toArray from p) (by simp;lia) λh' eb=>⟨rfl,I.turned (t':=s.toks) (λb o hb e=>eb b o hb e) f0 f1 f3 f4 f5⟩
 self:=λ_ _ _ _ _ st h=>wpAny_pyIter_tupleiter st h
theorem tM {P:EV}{w:Fm}{K:Ez}{tg:Expr}(it:Addr)(lo:Int)(n:Nat):Turn P w K tg (Itr lo n) [it] it (λi h=>IsRangeIter h it (lo+(i:Nat)*1) ((n:Int)-(i:Nat)) 1) where
 mem:=by simp
 obj:=λi h st b hb=>by
  have e:b=it:=by simpa using hb
  subst e
  exact ⟨_,st,λv z=>by
   have z':Data.fields _=Data.cell v:=z
   cases z'⟩
 keep:=λi h h' st k=>k it (by simp) _ st
 item:=by
  intro X hP hw hK hc i pins s σ H E I hf st hg
  subst hP hw hK
  obtain ⟨f0,f1,f2,f3,f4,f5⟩:=hf it (by simp)
  have W:=Walks.range (prog:=X.prog) (w:=X.w) (I.ok.hd hc) it lo 1 n
  refine W.item i s _ _ hg st λv h' tk hv st' kk =>?_
  obtain ⟨t,rfl⟩:=hv
  have I1:Inv X pins σ H { s with heap:=h',toks:=tk }:=I.turned (λb o hb e=>kk b o (by simpa using hb) e) f0 f1 f3 f4 f5
  refine ⟨_,rfl,yB (s:={ s with heap:=h',toks:=tk }) (n := "range_iterator") st' rfl rfl (by decide) ⟨.int (lo+i),H,I1,⟨t,?_⟩,⟨rfl,rfl⟩,st',λb hb=>(hf b hb).1⟩⟩
  rw[JS]
 done:=by
  intro X hP hw hK hc i pins s σ H E I hf st hg
  subst hP hw hK
  obtain ⟨f0,f1,f2,f3,f4,f5⟩:=hf it (by simp)
  exact wpAny_pyNext_range_end (I.ok.hd hc) st (by have:n<=i:=hg;lia) λh' eb=>⟨rfl,I.turned (t':=s.toks) (λb o hb e=>eb b o hb e) f0 f1 f3 f4 f5⟩
 self:=λ_ _ _ _ _ st h=>wpAny_pyIter_rangeiter st h
section
variable  {X:Cx}{tg:Expr}
def BZ (K:Ez)(tl:TE):TI:=λσ H R=>tl σ H λx H1=>∃a,x = .ref a/\(∃xs,SqL K H1 a xs)/\R (Itl K a) H1
def iTup (K:Ez)(tl:TE):TI:=λσ H R=>tl σ H λx H1=>∃a,x = .ref a/\(∃xs,SqT K H1 a xs)/\R (Itt K a) H1
theorem bp {l:Expr}{tl:TE}(hl:PE X l tl):PI X tg l (BZ X.K tl):=by
 intro pins s σ H R I h
 refine thn (hl pins s σ H _ I h) λv s1 ⟨x,H1,I1,r1,q1⟩ =>?_
 obtain ⟨a,e,⟨xs,hq⟩,q⟩:=q1
 subst e
 cases r1
 obtain ⟨its,rv,p,hz⟩:=I1.list hq
 refine Hi p.isList ?_
 refine ⟨s1.heap.objs.size,[s1.heap.objs.size],_,_,H1,rfl,I1.kept (t':=s1.toks) λb o e=>Ey _ e,oB a _,⟨_,EK _ rfl,rfl,rfl⟩,λb hb =>?_,q⟩
 have e:b=s1.heap.objs.size:=by simpa using hb
 subst e
 exact I1.wR (EI _) (I1.hok.fresh (EI _))
theorem eR {l:Expr}{tl:TE}(hl:PE X l tl):PI X tg l (iTup X.K tl):=by
 intro pins s σ H R I h
 refine thn (hl pins s σ H _ I h) λv s1 ⟨x,H1,I1,r1,q1⟩ =>?_
 obtain ⟨a,e,⟨xs,hq⟩,q⟩:=q1
 subst e
 cases r1
 obtain ⟨its,rv,p,hz⟩:=I1.tuple hq
 refine GS (show s1.heap.IsTuple a its.toArray from p) ?_
 refine ⟨s1.heap.objs.size,[s1.heap.objs.size],_,_,H1,rfl,I1.kept (t':=s1.toks) λb o e=>Ey _ e,mD a _,⟨_,EK _ rfl,rfl,rfl⟩,λb hb =>?_,q⟩
 have e:b=s1.heap.objs.size:=by simpa using hb
 subst e
 exact I1.wR (EI _) (I1.hok.fresh (EI _))
theorem yC {pins:List (Addr×Obj)}{σ:St}{H:Hp}{s:EG}{R:It->Hp->Prop}{E:EB->EG->Prop}{lo hi:Int}{t u v:Tok}{tk:Nat}(I:Inv X pins σ H s)(h1 : -(2 ^ 62)<=lo)(h2:lo<2 ^ 62)(h3 : -(2 ^ 62)<=hi)(h4:hi<2 ^ 62)
  (q:R (Itr lo (hi-lo).toNat) H):E4 (Fq X.prog X.w) X.A (pyIter (.ref s.heap.objs.size)) (PIE X pins σ tg R) E { s with heap:=s.heap.push { cls :=.type "range",data :=.fields #[.int lo t,.int hi u,.int 1 v] },toks:=tk }:=by
 refine wpAny_pyIter_range (IsRange.new ..) (small_one h1 h2 h3 h4) ?_
 have I1:Inv X pins σ H { s with heap:=s.heap.push { cls :=.type "range",data :=.fields #[.int lo t,.int hi u,.int 1 v] },toks:=tk }:=I.kept λb o e=>Ey _ e
 refine ⟨(s.heap.push { cls :=.type "range",data :=.fields #[.int lo t,.int hi u,.int 1 v] }).objs.size,[(s.heap.push { cls :=.type "range",data :=.fields #[.int lo t,.int hi u,.int 1 v] }).objs.size],_,_,H,rfl,
  I1.kept (t':=tk) λb o e=>Ey _ e,tM _ lo (hi-lo).toNat,?_,λb hb =>?_,q⟩
 ·have e1:lo+((0:Nat):Int)*1=lo:=by simp
  have e2:(((hi-lo).toNat:Nat):Int)-((0:Nat):Int)=Builtin.Range.rangeSize lo hi 1:=by rw[rangeSize_one];split <;> lia
  show IsRangeIter _ _ (lo+((0:Nat):Int)*1) ((((hi-lo).toNat:Nat):Int)-((0:Nat):Int)) 1
  rw[e1,e2]
  exact EK _ rfl
 ·have e:b=(s.heap.push { cls :=.type "range",data :=.fields #[.int lo t,.int hi u,.int 1 v] }).objs.size:=by simpa using hb
  subst e
  exact I1.wR (EI _) (I1.hok.fresh (EI _))
def DD (ta:TA):TI:=λσ H R=>ta σ H λvs H1=>∃j:Int,vs=[.int j] /\ -(2 ^ 62)<=j/\j<2 ^ 62/\R (Itr 0 j.toNat) H1
theorem aY {a:Expr}{ta:TA}{p pos:Pos}(hg:Gl X "range")(hm:X.mg "range" = none)(ha:PA X [a] ta)(hs:FT [a] X.env=[(false,eval a X.env)]:=by rfl):PI X tg (.Call (.Name "range" p) [a] [] pos) (DD ta):=by
 intro pins s σ H R I h
 refine Call_ (eO I hg hm boot_range (GA (thn (ha pos pins s σ H _ I h) λus s1 ⟨vs,H1,I1,r1,q1⟩ =>?_) hs rfl))
 obtain ⟨j,e,q1,q2,q⟩:=q1
 subst e
 cases r1 with
 | cons r rr =>
  cases rr
  obtain ⟨t,rfl⟩:=r
  exact call_range_1 (yC I1 (by lia) (by lia) q1 q2 (by simpa using q))
def tFor (wi:TI)(g:TG)(tb:TS):TS:=λD σ H=>wi σ H λJ H1=>∃W:Nat->Nat->St->Hp->Prop,(∃m,W 0 m σ H1)/\∀i m σ H,W i m σ H →
 (J.stop i H/\D.nx σ H)\/(J.go i H/\∃N:St->Hp->Prop,(∀σ' H',N σ' H'->∃m',m'<m/\W (i+1) m' σ' H')/\∀x H',J.yld i H x H'->g x σ H' λσ2 H2=>tb { D with nx:=N,ct:=N,bk:=D.nx } σ2 H2)
def eS (fp:List Addr)(h:Heap):List (Addr×Obj):=fp.filterMap λb=>(h.get? b).map λo=>(b,o)
theorem bZ {fp:List Addr}{h:Heap}{b:Addr}{o:Obj}(hb:b∈fp)(e:h.get? b=some o):(b,o)∈eS fp h:=Iw.mpr ⟨b,hb,by rw[e];rfl⟩
theorem kj {fp:List Addr}{h:Heap}{p:Addr×Obj}(hp:p∈eS fp h):p.1∈fp/\h.get? p.1=some p.2:=by
 obtain ⟨b,hb,e⟩:=Iw.mp hp
 cases q:h.get? b with
 | none=>rw[q] at e;cases e
 | some o =>
  rw[q] at e
  have e':(b,o)=p:=EX e
  subst e'
  exact ⟨hb,q⟩
theorem Inv.pinned {pins:List (Addr×Obj)}{σ:St}{H:Hp}{s:EG}{fp:List Addr}(I:Inv X pins σ H s)(hf:∀b∈fp,gs X pins H b)(ho:∀b∈fp,∃o,s.heap.get? b=some o/\∀v,o.data ≠ .cell v):Inv X (pins++eS fp s.heap) σ H s :=
 I.d9 λp hp=>(EU.mp hp).elim (λz=>I.pin p (E5 _ z)) λz=>by
  obtain ⟨hb,e⟩:=kj z
  obtain ⟨f0,f1,f2,_⟩:=hf p.1 hb
  obtain ⟨o,e',d⟩:=ho p.1 hb
  rw[e] at e';cases e'
  exact ⟨e,f0,f1,f2,d⟩
theorem Inv.dj {pins pl:List (Addr×Obj)}{σ:St}{H:Hp}{s:EG}(I:Inv X (pins++pl) σ H s):Inv X pins σ H s:=I.d9 λp hp=>I.pin p (E5 _ (F6 _ hp))
theorem bB {iter:Expr}{body:List Stmt}{wi:TI}{g:TG}{tb:TS}{pos:Pos}(hp:PassesOwn (Fq X.prog X.w) X.A X.env X.xe)(hc:X.calm=true)(hi:PI X tg iter wi)(hg:PG X tg g)(hb:PSs X body tb)
  (hs:∀x,foldedSetIterable iter X.env x=pure x:=by intro _;rfl):PS X (.For tg iter body [] pos) (tFor wi g tb):=by
 intro pins s σ H D I h
 refine wpAny_For (thn (hi pins s σ H _ I h) λv s1 h1=>thn h1 λitv s2 h2 =>?_) hs
 obtain ⟨it,fp,tn,J,H2,e,I2,T,st2,f2,W,⟨m0,w0⟩,turn⟩:=h2
 subst e
 have stat:∀{H':Hp},(∀b∈fp,H' b=none)->∀b∈fp,gs X pins H' b:=λhn b hb=>⟨hn b hb,(f2 b hb).2⟩
 refine codeAny_forLoop_any (λn s'=>∃i σ' H',Inv X pins σ' H' s'/\tn i s'.heap/\(∀b∈fp,H' b=none)/\W i n σ' H') ?_ m0 ⟨0,σ,H2,I2,st2,λb hb=>(f2 b hb).1,w0⟩
 rintro n s3 ⟨i,σ3,H3,I3,st3,fr3,w3⟩
 rcases turn i n σ3 H3 w3 with ⟨stop,qn⟩ | ⟨go,N,hN,step⟩
 ·refine Ie hp (thn (T.done X rfl rfl rfl hc i pins s3 σ3 H3 X.xe I3 (stat fr3) st3 stop) λr s4 ⟨hr,I4⟩ =>?_)
  subst hr
  exact JZ ⟨σ3,H3,I4,qn⟩
 ·refine Ie hp (thn (T.item X rfl rfl rfl hc i pins s3 σ3 H3 X.xe I3 (stat fr3) st3 go) λr s4 ⟨u,hr,h4⟩ =>?_)
  subst hr
  refine Ie hp (thn h4 λ_ s5 ⟨x,H5,I5,r5,y5,st5,fr5⟩ =>?_)
  have I5':=I5.pinned (stat fr5) (T.obj _ _ st5)
  refine Ie hp (thn (hg _ s5 σ3 H5 x u _ I5' r5 (step x H5 y5)) λ_ s6 ⟨σ6,H6,I6,q6⟩ =>?_)
  refine Ie hp (thn (hb _ s6 σ6 H6 _ I6 q6) λf s7 q7 =>?_)
  have again:∀{σ7:St} {H7:Hp},Inv X (pins++eS fp s5.heap) σ7 H7 s7->N σ7 H7->∃m,m<n/\∃i σ' H',Inv X pins σ' H' s7/\tn i s7.heap/\(∀b∈fp,H' b=none)/\W i m σ' H':=λ{σ7 H7} I7 n7=>by
   obtain ⟨m',hm,w7⟩:=hN σ7 H7 n7
   refine ⟨m',hm,i+1,σ7,H7,I7.dj,T.keep _ _ _ st5 λb hb o e=>(I7.pin (b,o) (E5 _ (E5 _ (bZ hb e)))).1,λb hb =>?_,w7⟩
   obtain ⟨o,e,d⟩:=T.obj _ _ st5 b hb
   exact (I7.pin (b,o) (E5 _ (E5 _ (bZ hb e)))).2.1
  cases f with
  | next=>obtain ⟨σ7,H7,I7,n7⟩:=q7;exact again I7 n7
  | cont=>obtain ⟨σ7,H7,I7,n7⟩:=q7;exact again I7 n7
  | brk=>obtain ⟨σ7,H7,I7,q7⟩:=q7;exact ⟨σ7,H7,I7.dj,q7⟩
  | ret v=>obtain ⟨x7,σ7,H7,I7,r7,q7⟩:=q7;exact ⟨x7,σ7,H7,I7.dj,r7,q7⟩
end
theorem cM {K:Ez}{a:Addr}{xs:List V}{g:TG}{tb:TS}{D:Ends}{σ:St}{H:Hp}(Pv:Nat->St->Hp->Prop)(h0:Pv 0 σ H)(hl:∀i σ H,i<=xs.length->Pv i σ H->SqL K H a xs)
  (hs:∀i x σ H,xs[i]? = some x->Pv i σ H->g x σ H λσ2 H2=>tb { D with nx:=Pv (i+1),ct:=Pv (i+1),bk:=D.nx } σ2 H2) (hd:∀σ H,Pv xs.length σ H->D.nx σ H) :
  ∃W:Nat->Nat->St->Hp->Prop,(∃m,W 0 m σ H)/\∀i m σ H,W i m σ H →
   ((Itl K a).stop i H/\D.nx σ H)\/((Itl K a).go i H/\∃N:St->Hp->Prop,(∀σ' H',N σ' H'->∃m',m'<m/\W (i+1) m' σ' H')/\∀x H',(Itl K a).yld i H x H'->g x σ H' λσ2 H2=>tb { D with nx:=N,ct:=N,bk:=D.nx } σ2 H2):=by
 refine ⟨λi m σ H=>m=xs.length-i/\i<=xs.length/\Pv i σ H,⟨xs.length,by simp,FE _,h0⟩,?_⟩
 rintro i m σ H ⟨rfl,hi,p⟩
 have q:=hl i σ H hi p
 by_cases hlt:i<xs.length
 ·refine .inr ⟨⟨xs,xs[i],q,by simp[hlt]⟩,Pv (i+1),λσ' H' p'=>⟨xs.length-(i+1),by lia,rfl,hlt,p'⟩,λx H' y =>?_⟩
  obtain ⟨e,y⟩:=y
  subst e
  exact hs i x σ _ (y xs q) p
 ·have e:i=xs.length:=by lia
  subst e
  exact .inl ⟨⟨xs,q,EI _⟩,hd σ H p⟩
theorem jE {K:Ez}{a:Addr}{xs:List V}{g:TG}{tb:TS}{D:Ends}{σ:St}{H:Hp}(Pv:Nat->St->Hp->Prop)(h0:Pv 0 σ H)(hl:∀i σ H,i<=xs.length->Pv i σ H->SqT K H a xs)
  (hs:∀i x σ H,xs[i]? = some x->Pv i σ H->g x σ H λσ2 H2=>tb { D with nx:=Pv (i+1),ct:=Pv (i+1),bk:=D.nx } σ2 H2) (hd:∀σ H,Pv xs.length σ H->D.nx σ H) :
  ∃W:Nat->Nat->St->Hp->Prop,(∃m,W 0 m σ H)/\∀i m σ H,W i m σ H →
   ((Itt K a).stop i H/\D.nx σ H)\/((Itt K a).go i H/\∃N:St->Hp->Prop,(∀σ' H',N σ' H'->∃m',m'<m/\W (i+1) m' σ' H')/\∀x H',(Itt K a).yld i H x H'->g x σ H' λσ2 H2=>tb { D with nx:=N,ct:=N,bk:=D.nx } σ2 H2):=by
 refine ⟨λi m σ H=>m=xs.length-i/\i<=xs.length/\Pv i σ H,⟨xs.length,by simp,FE _,h0⟩,?_⟩
 rintro i m σ H ⟨rfl,hi,p⟩
 have q:=hl i σ H hi p
 by_cases hlt:i<xs.length
 ·refine .inr ⟨⟨xs,xs[i],q,by simp[hlt]⟩,Pv (i+1),λσ' H' p'=>⟨xs.length-(i+1),by lia,rfl,hlt,p'⟩,λx H' y =>?_⟩
  obtain ⟨e,y⟩:=y
  subst e
  exact hs i x σ _ (y xs q) p
 ·have e:i=xs.length:=by lia
  subst e
  exact .inl ⟨⟨xs,q,EI _⟩,hd σ H p⟩
theorem cV {lo:Int}{n:Nat}{g:TG}{tb:TS}{D:Ends}{σ:St}{H:Hp}(Pv:Nat->St->Hp->Prop)(h0:Pv 0 σ H)
  (hs:∀i σ H,i<n->Pv i σ H->g (.int (lo+i)) σ H λσ2 H2=>tb { D with nx:=Pv (i+1),ct:=Pv (i+1),bk:=D.nx } σ2 H2) (hd:∀σ H,Pv n σ H->D.nx σ H) :
  ∃W:Nat->Nat->St->Hp->Prop,(∃m,W 0 m σ H)/\∀i m σ H,W i m σ H →
   ((Itr lo n).stop i H/\D.nx σ H)\/((Itr lo n).go i H/\∃N:St->Hp->Prop,(∀σ' H',N σ' H'->∃m',m'<m/\W (i+1) m' σ' H')/\∀x H',(Itr lo n).yld i H x H'->g x σ H' λσ2 H2=>tb { D with nx:=N,ct:=N,bk:=D.nx } σ2 H2):=by
 refine ⟨λi m σ H=>m=n-i/\i<=n/\Pv i σ H,⟨n,by simp,FE _,h0⟩,?_⟩
 rintro i m σ H ⟨rfl,hi,p⟩
 by_cases hlt:i<n
 ·refine .inr ⟨hlt,Pv (i+1),λσ' H' p'=>⟨n-(i+1),by lia,rfl,hlt,p'⟩,λx H' y =>?_⟩
  obtain ⟨e,y⟩:=y
  subst e y
  exact hs i σ _ hlt p
 ·have e:i=n:=by lia
  subst e
  exact .inl ⟨EI _,hd σ H p⟩
theorem gu {c:TT}{tb:TS}{D:Ends}{σ:St}{H:Hp}(Pv:St->Hp->Prop)(μ:St->Hp->Nat)(h0:Pv σ H)
  (hs:∀σ H,Pv σ H->c σ H λb H1=>if b=true then tb { D with nx:=λσ' H'=>Pv σ' H' /\ μ σ' H'<μ σ H,ct:=λσ' H'=>Pv σ' H' /\ μ σ' H'<μ σ H,bk:=D.nx } σ H1 else D.nx σ H1)
  (mono:∀σ H Q Q',(∀b H1,Q b H1->Q' b H1)->c σ H Q->c σ H Q'):yA c tb D σ H:=by
 refine ⟨λm σ H=>m=μ σ H/\Pv σ H,⟨_,rfl,h0⟩,?_⟩
 rintro m σ H ⟨rfl,p⟩
 refine mono σ H _ _ (λb H1 q =>?_) (hs σ H p)
 cases b with
 | true=>exact ⟨_,λσ' H' ⟨p',l⟩=>⟨_,l,rfl,p'⟩,q⟩
 | false=>exact q
abbrev R2:=V->V->Hp->VK->Prop
def OpR (X:Cx)(f:EB->EB->Sem EB)(r:R2):Prop :=
 ∀(pins:List (Addr×Obj)) (s:EG) (σ:St) (H:Hp) (x y:V) (v u:EB) (Q:VK),Inv X pins σ H s->RelV x v->RelV y u->r x y H Q →
  E4 (Fq X.prog X.w) X.A (f v u) (EP X pins σ Q) X.xe s
def UnR (X:Cx)(f:EB->Sem EB)(r:V->Hp->VK->Prop):Prop :=
 ∀(pins:List (Addr×Obj)) (s:EG) (σ:St) (H:Hp) (x:V) (v:EB) (Q:VK),Inv X pins σ H s->RelV x v->r x H Q →
  E4 (Fq X.prog X.w) X.A (f v) (EP X pins σ Q) X.xe s
def bD (X:Cx)(f:EB)(r:List V->Hp->VK->Prop):Prop :=
 ∀(pins:List (Addr×Obj)) (s:EG) (σ:St) (H:Hp) (xs:List V) (us:List EB) (Q:VK),Inv X pins σ H s->Vals xs us->r xs H Q →
  E4 (Fq X.prog X.w) X.A (call f us) (EP X pins σ Q) X.xe s
def TruR (X:Cx)(r:V->Hp->(Bool->Hp->Prop)->Prop):Prop :=
 ∀(pins:List (Addr×Obj)) (s:EG) (σ:St) (H:Hp) (x:V) (v:EB) (Q:Bool->Hp->Prop),Inv X pins σ H s->RelV x v->r x H Q →
  E4 (Fq X.prog X.w) X.A (truthy v) (TP X pins σ Q) X.xe s
def tOp (r:R2)(ta tb:TE):TE:=λσ H Q=>ta σ H λx H1=>tb σ H1 λy H2=>r x y H2 Q
def tUn (r:V->Hp->VK->Prop)(ta:TE):TE:=λσ H Q=>ta σ H λx H1=>r x H1 Q
def rI (C:Int->Int->Prop)(g:Int->Int->V):R2:=λx y H Q=>∃i j,x = .int i/\y = .int j/\C i j/\Q (g i j) H
def rI0 (g:Int->Int->V):R2:=λx y H Q=>∃i j,x = .int i/\y = .int j/\Q (g i j) H
def rU (g:Int->V):V->Hp->VK->Prop:=λx H Q=>∃i,x = .int i/\Q (g i) H
section
variable  {X:Cx}{a b c:Expr}{ta tb tc:TE}{pos:Pos}
theorem Cw (ha:PE X a ta)(hb:PE X b tb){pins:List (Addr×Obj)}{s:EG}{σ:St}{H:Hp}{R:V->V->Hp->Prop}(I:Inv X pins σ H s)
  (h:ta σ H λx H1=>tb σ H1 λy H2=>R x y H2) {Q:EB->EG->Prop} {f:EB->EB->Sem EB}
  (hf:∀v u s2 x y H2,Inv X pins σ H2 s2->RelV x v->RelV y u->R x y H2->E4 (Fq X.prog X.w) X.A (f v u) Q X.xe s2) :
  E4 (Fq X.prog X.w) X.A (eval a X.env) (λv s₁=>E4 (Fq X.prog X.w) X.A (eval b X.env) (λu s₂=>E4 (Fq X.prog X.w) X.A (f v u) Q X.xe s₂) X.xe s₁) X.xe s:=by
 refine thn (ha pins s σ H _ I h) λv s1 ⟨x,H1,I1,r1,q1⟩ =>?_
 refine thn (hb pins s1 σ H1 _ I1 q1) λu s2 ⟨y,H2,I2,r2,q2⟩ =>?_
 exact hf v u s2 x y H2 I2 r1 r2 q2
theorem aD {op:Operator}{r:R2}(ho:OpR X (binaryOp op) r)(ha:PE X a ta)(hb:PE X b tb):PE X (.BinOp a op b pos) (tOp r ta tb):=by
 intro pins s σ H Q I h
 exact wpAny_BinOp (Cw ha hb I h λv u s2 x y H2 I2 rx ry q=>ho pins s2 σ H2 x y v u Q I2 rx ry q)
theorem rn {op:UnaryOp}{r:V->Hp->VK->Prop}(ho:UnR X (unaryOp op) r)(ha:PE X a ta):PE X (.UnaryOp op a pos) (tUn r ta):=by
 intro pins s σ H Q I h
 exact UnaryOp_ (thn (ha pins s σ H _ I h) λv s1 ⟨x,H1,I1,r1,q1⟩=>ho pins s1 σ H1 x v Q I1 r1 q1)
theorem opI {f:EB->EB->Sem EB}{C:Int->Int->Prop}{g:Int->Int->Int}
  (rule:∀(i j:Int) (t u:Tok) (s:EG) (Q:EB->EG->Prop) (E:EB->EG->Prop),C i j->Q (.int (g i j) s.toks) { s with toks:=s.toks+1 }->E4 (Fq X.prog X.w) X.A (f (.int i t) (.int j u)) Q E s) :
  OpR X f (rI C λi j =>.int (g i j)):=by
 intro pins s σ H x y v u Q I rx ry h
 obtain ⟨i,j,rfl,rfl,hc,q⟩:=h
 obtain ⟨t,rfl⟩:=rx
 obtain ⟨t',rfl⟩:=ry
 exact rule i j t t' s _ _ hc ⟨.int (g i j),H,I.tok _,⟨_,rfl⟩,q⟩
theorem DE {f:EB->EB->Sem EB}{g:Int->Int->Int}
  (rule:∀(i j:Int) (t u:Tok) (s:EG) (Q:EB->EG->Prop) (E:EB->EG->Prop),Q (.int (g i j) s.toks) { s with toks:=s.toks+1 }->E4 (Fq X.prog X.w) X.A (f (.int i t) (.int j u)) Q E s) :
  OpR X f (rI0 λi j =>.int (g i j)):=by
 intro pins s σ H x y v u Q I rx ry h
 obtain ⟨i,j,rfl,rfl,q⟩:=h
 obtain ⟨t,rfl⟩:=rx
 obtain ⟨t',rfl⟩:=ry
 exact rule i j t t' s _ _ ⟨.int (g i j),H,I.tok _,⟨_,rfl⟩,q⟩
theorem AM {f:EB->EB->Sem EB}{g:Int->Int->Bool}
  (rule:∀(i j:Int) (t u:Tok) (s:EG) (Q:EB->EG->Prop) (E:EB->EG->Prop),Q (.bool (g i j)) s->E4 (Fq X.prog X.w) X.A (f (.int i t) (.int j u)) Q E s) :
  OpR X f (rI0 λi j =>.bl (g i j)):=by
 intro pins s σ H x y v u Q I rx ry h
 obtain ⟨i,j,rfl,rfl,q⟩:=h
 obtain ⟨t,rfl⟩:=rx
 obtain ⟨t',rfl⟩:=ry
 exact rule i j t t' s _ _ ⟨.bl (g i j),H,I,rfl,q⟩
def CDiv (i j:Int):Prop:=0<j/\j<1073741824
def CPow (i j:Int):Prop:=0<=j/\j<=1000000/\i.natAbs<2 ^ 64
def Cy (i j:Int):Prop:=(-(2 ^ 64)<i/\i<2 ^ 64)\/(-(2 ^ 64)<j/\j<2 ^ 64)
theorem Cy.ok {i j:Int}(h:Cy i j):IntMulOk i j:=by
 rcases h with ⟨h1,h2⟩ | ⟨h1,h2⟩
 ·exact .of_left (intBits_le_64 h1 h2)
 ·exact .of_right (intBits_le_64 h1 h2)
theorem bh:OpR X (binaryOp .Add) (rI0 λi j =>.int (i+j)):=DE λ_ _ _ _ _ _ _ q=>add_int q
theorem gx:OpR X (binaryOp .Sub) (rI0 λi j =>.int (i-j)):=DE λ_ _ _ _ _ _ _ q=>sub_int q
theorem ko:OpR X (binaryOp .Mult) (rI Cy λi j =>.int (i*j)):=opI λ_ _ _ _ _ _ _ hc q=>mul_int q hc.ok
theorem pR:OpR X (binaryOp .FloorDiv) (rI CDiv λi j =>.int (i/j)):=opI λi j _ _ _ _ _ hc q=>by
 have h1:(0:Int)<j:=hc.1
 have h2:j<1073741824:=hc.2
 exact floordiv_int (by lia) (by rw[J6 i (by lia)];exact q) (.inl (PyProof.noPylong_small (by lia)))
theorem cx:OpR X (binaryOp .Mod) (rI (λ_ j=>0<j) λi j =>.int (i%j)):=opI λi j _ _ _ _ _ hc q=>by
 have h1:(0:Int)<j:=hc
 exact mod_int' (by lia) (by rw[Int.fmod_eq_emod_of_nonneg i (by lia)];exact q)
theorem fN:OpR X (binaryOp .Pow) (rI CPow λi j =>.int (i ^ j.toNat)):=opI λ_ _ _ _ _ _ _ hc q=>pow_int_small hc.1 hc.2.1 hc.2.2 q
theorem unI {f:EB->Sem EB}{g:Int->Int}
  (rule:∀(i:Int) (t:Tok) (s:EG) (Q:EB->EG->Prop) (E:EB->EG->Prop),Q (.int (g i) s.toks) { s with toks:=s.toks+1 }->E4 (Fq X.prog X.w) X.A (f (.int i t)) Q E s) :
  UnR X f (rU λi =>.int (g i)):=by
 intro pins s σ H x v Q I rx h
 obtain ⟨i,rfl,q⟩:=h
 obtain ⟨t,rfl⟩:=rx
 exact rule i t s _ _ ⟨.int (g i),H,I.tok _,⟨_,rfl⟩,q⟩
theorem mE:UnR X (unaryOp .USub) (rU λi =>.int (-i)):=unI λ_ _ _ _ _ q=>neg_int q
end
def DF:V->V->Bool
 | .non,.non=>true | .non,.int _=>true | .int _,.non=>true | .non,.bl _=>true | .bl _,.non=>true | .non,.str _=>true | .str _,.non=>true
 | .int _,.int _=>true | .bl _,.bl _=>true | .str _,.str _=>true | .byt _,.byt _=>true
 | .int _,.str _=>true | .str _,.int _=>true | .bl _,.str _=>true | .str _,.bl _=>true
 | _,_=>false
def rEq:R2:=λx y H Q=>DF x y=true/\Q (.bl (decide (x=y))) H
def rNe:R2:=λx y H Q=>DF x y=true/\Q (.bl (!decide (x=y))) H
theorem u7 {i j:Int}:decide (V.int i=V.int j)=(i == j):=by
 rw[Hm]
 simp
theorem yD {i j:Bool}:decide (V.bl i=V.bl j)=(i == j):=by
 rw[Hm]
 simp
theorem u9 {i j:Str}:decide (V.str i=V.str j)=(i == j):=by
 rw[Hm]
 simp
theorem va {i j:Array UInt8}:decide (V.byt i=V.byt j)=(i.toList == j.toList):=by
 rw[Hm]
 cases i
 cases j
 simp
section
variable  {X:Cx}{a b c:Expr}{ta tb tc:TE}{pos:Pos}
theorem aT {pins:List (Addr×Obj)}{σ:St}{H:Hp}{s:EG}{Q:VK}{k k':Bool}(I:Inv X pins σ H s)(q:Q (.bl k) H)(e:k=k'):EP X pins σ Q (.bool k') s:=by
 subst e
 exact ⟨.bl k,H,I,rfl,q⟩
theorem bN:OpR X (Gw .Eq) rEq:=by
 intro pins s σ H x y v u Q I rx ry h
 obtain ⟨hs,q⟩:=h
 cases x with
 | non =>
  cases rx
  cases y with
  | non=>cases ry;exact PySem.EqNone.eq_none_none (aT I q (by simp))
  | bl j=>cases ry;exact PySem.EqNone.eq_none_bool (aT I q (by simp))
  | int j=>obtain ⟨t',rfl⟩:=ry;exact PySem.EqNone.eq_none_int (aT I q (by simp))
  | str j=>obtain ⟨t',rfl⟩:=ry;exact PySem.EqNone.eq_none_str (aT I q (by simp))
  | _=>exact absurd (show false=true from hs) EO
 | bl i =>
  cases rx
  cases y with
  | non=>cases ry;exact PySem.EqNone.eq_bool_none (aT I q (by simp))
  | bl j=>cases ry;exact eq_bool (aT I q yD)
  | str j=>obtain ⟨t',rfl⟩:=ry;exact Na (aT I q (by simp))
  | _=>exact absurd (show false=true from hs) EO
 | int i =>
  obtain ⟨t,rfl⟩:=rx
  cases y with
  | non=>cases ry;exact PySem.EqNone.eq_int_none (aT I q (by simp))
  | int j=>obtain ⟨t',rfl⟩:=ry;exact eq_int (aT I q u7)
  | str j=>obtain ⟨t',rfl⟩:=ry;exact Ni (aT I q (by simp))
  | _=>exact absurd (show false=true from hs) EO
 | str i =>
  obtain ⟨t,rfl⟩:=rx
  cases y with
  | non=>cases ry;exact PySem.EqNone.eq_str_none (aT I q (by simp))
  | bl j=>cases ry;exact Nb (aT I q (by simp))
  | int j=>obtain ⟨t',rfl⟩:=ry;exact Nj (aT I q (by simp))
  | str j=>obtain ⟨t',rfl⟩:=ry;exact eq_str (aT I q u9)
  | _=>exact absurd (show false=true from hs) EO
 | byt i =>
  obtain ⟨t,rfl⟩:=rx
  cases y with
  | byt j=>obtain ⟨t',rfl⟩:=ry;exact PySem.W.eq_bytes (aT I q va)
  | _=>exact absurd (show false=true from hs) EO
 | _=>cases y <;> exact absurd (show false=true from hs) EO
theorem lD:OpR X (Gw .NotEq) rNe:=by
 intro pins s σ H x y v u Q I rx ry h
 obtain ⟨hs,q⟩:=h
 cases x with
 | non =>
  cases rx
  cases y with
  | non=>cases ry;exact PySem.EqNone.ne_none_none (aT I q (by simp))
  | bl j=>cases ry;exact PySem.EqNone.ne_none_bool (aT I q (by simp))
  | int j=>obtain ⟨t',rfl⟩:=ry;exact PySem.EqNone.ne_none_int (aT I q (by simp))
  | str j=>obtain ⟨t',rfl⟩:=ry;exact PySem.EqNone.ne_none_str (aT I q (by simp))
  | _=>exact absurd (show false=true from hs) EO
 | bl i =>
  cases rx
  cases y with
  | non=>cases ry;exact PySem.EqNone.ne_bool_none (aT I q (by simp))
  | bl j=>cases ry;exact ne_bool (aT I q (congrArg not yD))
  | str j=>obtain ⟨t',rfl⟩:=ry;exact Nc (aT I q (by simp))
  | _=>exact absurd (show false=true from hs) EO
 | int i =>
  obtain ⟨t,rfl⟩:=rx
  cases y with
  | non=>cases ry;exact PySem.EqNone.ne_int_none (aT I q (by simp))
  | int j=>obtain ⟨t',rfl⟩:=ry;exact ne_int (aT I q (congrArg not u7))
  | str j=>obtain ⟨t',rfl⟩:=ry;exact Nk (aT I q (by simp))
  | _=>exact absurd (show false=true from hs) EO
 | str i =>
  obtain ⟨t,rfl⟩:=rx
  cases y with
  | non=>cases ry;exact PySem.EqNone.ne_str_none (aT I q (by simp))
  | bl j=>cases ry;exact Nd (aT I q (by simp))
  | int j=>obtain ⟨t',rfl⟩:=ry;exact Nl (aT I q (by simp))
  | str j=>obtain ⟨t',rfl⟩:=ry;exact ne_str (aT I q (congrArg not u9))
  | _=>exact absurd (show false=true from hs) EO
 | byt i =>
  obtain ⟨t,rfl⟩:=rx
  cases y with
  | byt j=>obtain ⟨t',rfl⟩:=ry;exact PySem.W.ne_bytes (aT I q (congrArg not va))
  | _=>exact absurd (show false=true from hs) EO
 | _=>cases y <;> exact absurd (show false=true from hs) EO
theorem oD:OpR X (Gw .Lt) (rI0 λi j =>.bl (decide (i<j))):=AM λ_ _ _ _ _ _ _ q=>lt_int q
theorem B0:OpR X (Gw .LtE) (rI0 λi j =>.bl (decide (i<=j))):=AM λ_ _ _ _ _ _ _ q=>le_int q
theorem mF:OpR X (Gw .Gt) (rI0 λi j =>.bl (decide (j<i))):=AM λ_ _ _ _ _ _ _ q=>gt_int q
theorem vb:OpR X (Gw .GtE) (rI0 λi j =>.bl (decide (j<=i))):=AM λ_ _ _ _ _ _ _ q=>ge_int q
theorem tN:OpR X (Gw .Is) (λx y H Q=>y = .non/\Q (.bl (decide (x = .non))) H):=by
 intro pins s σ H x y v u Q I rx ry h
 obtain ⟨rfl,q⟩:=h
 cases ry
 refine is_none_gen (aT I q ?_)
 cases x <;> first
  | (cases rx;rfl)
  | (obtain ⟨t,rfl⟩:=rx;rfl)
theorem l8:OpR X (Gw .IsNot) (λx y H Q=>y = .non/\Q (.bl (!decide (x = .non))) H):=by
 intro pins s σ H x y v u Q I rx ry h
 obtain ⟨rfl,q⟩:=h
 cases ry
 refine isnot_none_gen (aT I q ?_)
 cases x <;> first
  | (cases rx;rfl)
  | (obtain ⟨t,rfl⟩:=rx;rfl)
theorem aK (b:Expr){op:CmpOp}(h:op ≠ .In:=by decide)(h2:op ≠ .NotIn:=by decide):behindInMarks op b=false:=by
 have e1:(op == CmpOp.In)=false:=by cases op <;> first | rfl | exact absurd rfl h
 have e2:(op == CmpOp.NotIn)=false:=by cases op <;> first | rfl | exact absurd rfl h2
 cases b <;> simp[behindInMarks,e1,e2]
theorem de {op:CmpOp}{r:R2}(ho:OpR X (Gw op) r)(ha:PE X a ta)(hb:PE X b tb)(hm:behindInMarks op b=false):PE X (.Compare a [op] [b] pos) (tOp r ta tb):=by
 intro pins s σ H Q I h
 exact wpAny_Compare1 (Cw ha hb I h λv u s2 x y H2 I2 rx ry q=>ho pins s2 σ H2 x y v u Q I2 rx ry q) hm
def B1 (t:TE):TT:=λσ H Q=>t σ H λx H'=>∃k,x = .bl k/\Q k H'
theorem aA {op:CmpOp}{r:R2}(ho:OpR X (Gw op) r)(ha:PE X a ta)(hb:PE X b tb)(hm:behindInMarks op b=false):PT X (.Compare a [op] [b] pos) (B1 (tOp r ta tb)):=by
 intro pins s σ H Q I h
 refine Lh (thn (ha pins s σ H _ I h) λv s1 ⟨x,H1,I1,r1,q1⟩=>thn (hb pins s1 σ H1 _ I1 q1) λu s2 ⟨y,H2,I2,r2,q2⟩ =>
  thn (ho pins s2 σ H2 x y v u _ I2 r1 r2 q2) λc s3 ⟨z,H3,I3,r3,k,e,q3⟩ =>?_) hm
 subst e
 cases r3
 exact Gg ⟨H3,I3,q3⟩
def yE (r r':R2)(ta tb tc:TE):TE:=λσ H Q=>ta σ H λx H1=>tb σ H1 λy H2=>r x y H2 λz H3=>∃k,z = .bl k ∧
 (if k=true then tc σ H3 λw' H4=>r' y w' H4 Q else Q (.bl false) H3)
theorem yF {op op':CmpOp}{r r':R2}(ho:OpR X (Gw op) r)(ho':OpR X (Gw op') r')(ha:PE X a ta)(hb:PE X b tb)(hc:PE X c tc)
  (hm:lastMarks [op,op'] [b,c]=false:=by with_unfolding_all rfl):PE X (.Compare a [op,op'] [b,c] pos) (yE r r' ta tb tc):=by
 intro pins s σ H Q I h
 refine Compare_chain (thn (ha pins s σ H _ I h) λv s1 ⟨x,H1,I1,r1,q1⟩=>chain_link (thn (hb pins s1 σ H1 _ I1 q1) λu s2 ⟨y,H2,I2,r2,q2⟩ =>
  thn (ho pins s2 σ H2 x y v u _ I2 r1 r2 q2) λd s3 ⟨z,H3,I3,r3,k,e,q3⟩ =>?_)) hm
 subst e
 cases r3
 refine Gg ?_
 cases k with
 | false=>exact ite_ff ⟨.bl false,H3,I3,rfl,q3⟩
 | true=>exact ite_tt (chain_last (thn (hc pins s3 σ H3 _ I3 q3) λw' s4 ⟨z',H4,I4,r4,q4⟩=>ho' pins s4 σ H4 y z' u w' Q I4 r2 r4 q4))
theorem yG {op op':CmpOp}{r r':R2}(ho:OpR X (Gw op) r)(ho':OpR X (Gw op') r')(ha:PE X a ta)(hb:PE X b tb)(hc:PE X c tc)
  (hm:lastMarks [op,op'] [b,c]=false:=by with_unfolding_all rfl):PT X (.Compare a [op,op'] [b,c] pos) (B1 (yE r r' ta tb tc)):=by
 intro pins s σ H Q I h
 refine isTrue_chain (thn (ha pins s σ H _ I h) λv s1 ⟨x,H1,I1,r1,q1⟩=>test_link (thn (hb pins s1 σ H1 _ I1 q1) λu s2 ⟨y,H2,I2,r2,q2⟩ =>
  thn (ho pins s2 σ H2 x y v u _ I2 r1 r2 q2) λd s3 ⟨z,H3,I3,r3,k,e,q3⟩ =>?_)) hm
 subst e
 cases r3
 refine Gg ?_
 cases k with
 | false =>
  obtain ⟨k',e',q'⟩:=q3
  cases e'
  exact ite_ff ⟨H3,I3,q'⟩
 | true =>
  refine ite_tt (test_last (thn (hc pins s3 σ H3 _ I3 q3) λw' s4 ⟨z',H4,I4,r4,q4⟩=>thn (ho' pins s4 σ H4 y z' u w' _ I4 r2 r4 q4) λd' s5 ⟨z2,H5,I5,r5,k2,e2,q5⟩ =>?_))
  subst e2
  cases r5
  exact Gg ⟨H5,I5,q5⟩
def DG (K:Ez)(x:V)(H:Hp)(k:Bool):Prop :=
 match x with
 | .non=>k=false
 | .bl b=>k=b
 | .int i=>k=(i != 0)
 | .str y=>y.length<=ES/\k=((y.length:Int) != 0)
 | .byt y=>y.size<=ES/\k=((y.size:Int) != 0)
 | .ref p=>(∃xs,SqL K H p xs/\k = !xs.isEmpty)\/(∃xs,SqT K H p xs/\k = !xs.isEmpty)\/∃kvs,H p=some (.dK kvs)/\k = !kvs.isEmpty
 | _=>False
theorem tO {κ:Type}{kvs:List (κ×V)}{vs:List (κ×EB)}(r:KV kvs vs):(!vs.isEmpty) = !kvs.isEmpty:=by
 cases r <;> rfl
theorem mG {xs:List V}{its:List EB}(r:Vals xs its):(!its.toArray.isEmpty) = !xs.isEmpty:=by
 cases r <;> simp
theorem kq:(ES:Nat)<2 ^ 63:=by rw[HW];decide
theorem Cz:TruR X (λx H Q=>∃k,DG X.K x H k/\Q k H):=by
 intro pins s σ H x v Q I rx h
 obtain ⟨k,e,q⟩:=h
 have hl:=kq
 have hs:ES=16777216:=HW
 cases x with
 | non =>
  cases rx
  have e':k=false:=e
  subst e'
  exact truthy_none ⟨H,I,q⟩
 | bl b =>
  cases rx
  have e':k=b:=e
  subst e'
  exact Gg ⟨H,I,q⟩
 | int i =>
  obtain ⟨t,rfl⟩:=rx
  have e':k=(i != 0):=e
  subst e'
  exact PySem.P.truthy_int ⟨H,I,q⟩
 | str y =>
  obtain ⟨t,rfl⟩:=rx
  obtain ⟨hy,e'⟩:y.length<=ES/\k=((y.length:Int) != 0):=e
  subst e'
  exact PySem.P.truthy_str (by lia) ⟨H,I.tok _,q⟩
 | byt y =>
  obtain ⟨t,rfl⟩:=rx
  obtain ⟨hy,e'⟩:y.size<=ES/\k=((y.size:Int) != 0):=e
  subst e'
  exact PySem.W.truthy_bytes (by lia) ⟨H,I.tok _,q⟩
 | ref p =>
  cases rx
  have e':(∃xs,SqL X.K H p xs/\k = !xs.isEmpty)\/(∃xs,SqT X.K H p xs/\k = !xs.isEmpty)\/∃kvs,H p=some (.dK kvs)/\k = !kvs.isEmpty:=e
  rcases e' with ⟨xs,hx,e'⟩ | ⟨xs,hx,e'⟩ | ⟨kvs,hx,e'⟩
  ·subst e'
   obtain ⟨its,r,pl,hz⟩:=I.list hx
   have hlen:=r.length
   exact wpAny_truthy_list pl.isList (by simp only[EM];lia) ⟨H,I.tok _,by rw[mG r];exact q⟩
  ·subst e'
   obtain ⟨its,r,pl,hz⟩:=I.tuple hx
   have hlen:=r.length
   exact truthy_tuple pl (by simp only[EM];lia) ⟨H,I.tok _,by rw[mG r];exact q⟩
  ·subst e'
   obtain ⟨hz,hS,vs,r,m⟩:kvs.length<=ES/\(p == sysModules)=false/\∃vs,KV kvs vs/\s.heap.DictOf (bJ X.prog X.w) p vs:=I.hok p _ hx
   have hlen:kvs.length=vs.length:=Kw r
   exact wpAny_truthy_dict hS m (by lia) ⟨H,I.tok _,by rw[tO r];exact q⟩
 | _=>exact (show False from e).elim
theorem yH (ha:PE X a ta)(he:∀whole,isTrue a X.env whole=(do let v ← whole;standAt a.pos;JJ [v] (truthy v))) :
    PT X a (λσ H Q=>ta σ H λx H'=>∃k,DG X.K x H' k/\Q k H'):=by
  intro pins s σ H Q I h
  exact isTrue_plain (thn (ha pins s σ H _ I h) λv s1 ⟨x,H1,I1,r1,q1⟩=>Cz pins s1 σ H1 x v Q I1 r1 q1) (he _)
theorem vals1 {x:V}{us:List EB}(r:Vals [x] us):∃u,us=[u]/\RelV x u:=by
 cases r with
 | cons r1 r2=>cases r2;exact ⟨_,rfl,r1⟩
theorem vals2 {x y:V}{us:List EB}(r:Vals [x,y] us):∃u w',us=[u,w']/\RelV x u/\RelV y w':=by
 cases r with
 | cons r1 r2 =>
  cases r2 with
  | cons r3 r4=>cases r4;exact ⟨_,_,rfl,r1,r3⟩
theorem mH:bD X (.builtin "abs") (λxs H Q=>∃i,xs=[.int i]/\Q (.int (if i<0 then -i else i)) H):=by
 intro pins s σ H xs us Q I r h
 obtain ⟨i,rfl,q⟩:=h
 obtain ⟨u,rfl,t,rfl⟩:=vals1 r
 exact call_abs_int λu tk=>⟨.int (if i<0 then -i else i),H,I.tok _,⟨_,rfl⟩,q⟩
theorem ie (hc:X.calm=true):bD X (.builtin "max") (λxs H Q=>∃i j,xs=[.int i,.int j]/\Q (.int (if j>i then j else i)) H):=by
 intro pins s σ H xs us Q I r h
 obtain ⟨i,j,rfl,q⟩:=h
 obtain ⟨u,w',rfl,⟨t,rfl⟩,⟨t',rfl⟩⟩:=vals2 r
 refine max_two_ints (I.ok.hd hc) λh' tk k=>⟨_,H,I.kept k,?_,q⟩
 by_cases hj:j>i
 ·rw[if_pos hj,if_pos hj];exact ⟨_,rfl⟩
 ·rw[if_neg hj,if_neg hj];exact ⟨_,rfl⟩
theorem oE (hc:X.calm=true):bD X (.builtin "min") (λxs H Q=>∃i j,xs=[.int i,.int j]/\Q (.int (if j<i then j else i)) H):=by
 intro pins s σ H xs us Q I r h
 obtain ⟨i,j,rfl,q⟩:=h
 obtain ⟨u,w',rfl,⟨t,rfl⟩,⟨t',rfl⟩⟩:=vals2 r
 refine min_two_ints (I.ok.hd hc) λh' tk k=>⟨_,H,I.kept k,?_,q⟩
 by_cases hj:j<i
 ·rw[if_pos hj,if_pos hj];exact ⟨_,rfl⟩
 ·rw[if_neg hj,if_neg hj];exact ⟨_,rfl⟩
end
structure CA (h:Heap)(x dx C:Addr)(mA:Str->Option EB):Prop where
 obj:h.get? x=some (PySem.W.instObj C dx)
 ns:h.Ns1 dx mA
 ne:dx≠x
theorem wU {h:Heap}{dx:Addr}{mA:Str->Option EB}(n:h.Ns1 dx mA):∃od,h.get? dx=some od/\∀name,PySem.W.lookIn name od=some (mA name):=by
 obtain ⟨o,es,ep,ho,hd,hk,_,hm⟩:=n
 refine ⟨o,ho,λname =>?_⟩
 have e:=hm name
 unfold nsFind findBy at e
 rw[<- Array.find?_toList] at e
 unfold PySem.W.lookIn
 rw[hd]
 dsimp only
 split
 ·rename_i y q
  rw[q] at e
  exact congrArg some e
 ·rename_i q
  rw[q] at e
  have a:es.toList.any (·.refKey)=false:=by
   rw[List.any_eq_false]
   intro y hy
   obtain ⟨z,t,hkey⟩:=hk y (Fu.mp hy)
   simp[DictEntry.refKey,hkey]
  have a':¬ es.toList.any (·.refKey)=true:=by rw[a];exact EO
  rw[if_neg a']
  exact congrArg some e
theorem CA.look {h:Heap}{x dx C:Addr}{mA:Str->Option EB}(I:CA h x dx C mA):∃od,PySem.W.InstAt h x (PySem.W.instObj C dx) C (some od)/\∀name,PySem.W.lookIn name od=some (mA name) :=
 let ⟨od,ho,hl⟩:=wU I.ns
 ⟨od,⟨I.obj,rfl,rfl,ho⟩,hl⟩
section
variable  {prog:EV}{w:Fm}{A:FN}{E:EB->EG->Prop}{s:EG}{K:Ez}{x dx C f:Addr}{mA:Str->Option EB}{name:Str}{v:EB}
end
theorem mz.some_of {v:V}{o:Option EB}(r:mz (some v) o):∃u,o=some u/\RelV v u:=by
 cases o with
 | none=>exact (show False from r).elim
 | some u=>exact ⟨u,rfl,r⟩
section
variable  {P:EV}{w:Fm}{H H':Hp}{h h':Heap}{a C dx:Addr}{fs fs':List (Str×V)}
theorem AN (hok:HOk P w H h)(e:H a=some (.ins C dx fs)):∃mA,CA h a dx C mA/\(∀f,mz (fs.lookup f) (mA f))/\PySem.Within mA (fs.map (·.1))/\fs.length<=1000/\H dx=some (.own a):=by
 obtain ⟨d,z,ne,ob,mA,n,r,q⟩:=(show ba P w H h a (.ins C dx fs) from hok a _ e)
 exact ⟨mA,⟨ob,n,ne⟩,r,q,z,d⟩
end
structure Cls (K:Ez)(C:Addr):Prop where
 pg:PySem.W.plainGet K C Str.empty=true
 hd:PySem.W.hasDictIn K C=true
 po:PySem.W.plainOver K C=true
 sa:PySem.W.findIn K (.ref C) "__setattr__" = some (some (.builtin "object.__setattr__"))
theorem Cls.get {K:Ez}{C:Addr}(c:Cls K C)(f:Str):PySem.W.plainGet K C f=true:=c.pg
section
variable  {X:Cx}{pins:List (Addr×Obj)}{σ:St}{H:Hp}{s:EG}{a C dx:Addr}{fs:List (Str×V)}{f:Str}{v:V}{A:FN}{E:EB->EG->Prop}
end
section
variable  {X:Cx}{o e value:Expr}{f:Str}{pos pos' tpos:Pos}{ta tv:TE}
end
section
variable  {X:Cx}{pins:List (Addr×Obj)}{σ:St}{H:Hp}{s:EG}{A:FN}{E:EB->EG->Prop}{Q:EB->EG->Prop}{c:EB}{b:Bool}
inductive kr (K:Ez)(H:Hp):V->EB->Prop where
 | non:kr K H .non (.type "NoneType")
 | bl (x:Bool):kr K H (.bl x) (.type "bool")
 | int (i:Int):kr K H (.int i) (.type "int")
 | str (x:Str):kr K H (.str x) (.type "str")
 | flt (x:UInt64):kr K H (.flt x) (.type "float")
 | lst {a:Addr} {xs:List V} (e:H a=some (.lst xs)):kr K H (.ref a) (.type "list")
 | frz {a:Addr} {o:Obj} {xs:List V} (e:H a=some (.frz o (.lst xs))):kr K H (.ref a) (.type "list")
 | tup {a:Addr} {xs:List V} (e:H a=some (.tup xs)):kr K H (.ref a) (.type "tuple")
 | dK {a:Addr} {kvs:List (Key×V)} (e:H a=some (.dK kvs)):kr K H (.ref a) (.type "dict")
 | dT {a:Addr} {kvs:List (List Key×V)} (e:H a=some (.dT kvs)):kr K H (.ref a) (.type "dict")
 | ins {a C dx:Addr} {fs:List (Str×V)} (e:H a=some (.ins C dx fs)) (cl:Cls K C) (ha:PySem.W.findIn K (.ref C) "__class__" = some (some (.builtin "object.__class__")))
   (hn:PySem.W.specialIn K (.builtin "object.__class__") "__get__" = some (some (.builtin "getset_descriptor.__get__"))) (htk:PySem.W.takesIn K (.builtin "object.__class__")=some true)
   (hm:PySem.W.mroIn K C (.type "object")=some true):kr K H (.ref a) (.ref C)
theorem wV {x:V}{u t:EB}(I:Inv X pins σ H s)(rx:RelV x u)(ty:kr X.K H x t)(e:PySem.W.kitOne X.K t c=some b)(h:∀tk,Q (.bool b) { s with toks:=tk }) :
  E4 (Fq X.prog X.w) A (call (.builtin "isinstance") [u,c]) Q E s:=by
 cases ty with
 | non=>cases (show u=GV from rx);exact GB PySem.W.kitx_none I.kIn True.intro e (λz=>nomatch z) h
 | bl y=>cases (show u=Value.bool y from rx);exact GB PySem.W.kitx_bool I.kIn True.intro e (λz=>nomatch z) h
 | int i=>obtain ⟨t,q⟩:=(show ∃t,u=GO i t from rx);cases q;exact GB PySem.W.kitx_int I.kIn True.intro e (λz=>nomatch z) h
 | str y=>obtain ⟨t,q⟩:=(show ∃t,u=Value.str y t from rx);cases q;exact GB PySem.W.kitx_str I.kIn True.intro e (λz=>nomatch z) h
 | flt y=>obtain ⟨t,q⟩:=(show ∃t,u=Value.float y t from rx);cases q;exact GB PySem.W.kitx_float I.kIn True.intro e (λz=>nomatch z) h
 | @lst a xs ea =>
  cases (show u=E2 a from rx)
  obtain ⟨_,_,n,_,h1⟩:=(show ba X.prog X.w H s.heap a (.lst xs) from I.hok a _ ea)
  exact GB Mf I.kIn ⟨_,h1,rfl⟩ e (λz=>nomatch z) h
 | @frz a ob xs ea =>
  cases (show u=E2 a from rx)
  obtain ⟨_,_,_,n,_,h1⟩:=(show ba X.prog X.w H s.heap a (.frz ob (.lst xs)) from I.hok a _ ea)
  exact GB Mf I.kIn ⟨_,h1,rfl⟩ e (λz=>nomatch z) h
 | @tup a xs ea =>
  cases (show u=E2 a from rx)
  obtain ⟨_,_,_,p⟩:=(show ba X.prog X.w H s.heap a (.tup xs) from I.hok a _ ea)
  obtain ⟨o,h1,h2,_⟩:=p
  exact GB LR I.kIn ⟨o,h1,h2.1⟩ e (λz=>nomatch z) h
 | @dK a kvs ea =>
  cases (show u=E2 a from rx)
  obtain ⟨_,_,vs,_,p⟩:=(show ba X.prog X.w H s.heap a (.dK kvs) from I.hok a _ ea)
  obtain ⟨o,es,ep,h1,h2,_⟩:=p
  exact GB Mg I.kIn ⟨o,h1,h2.1⟩ e (λz=>nomatch z) h
 | @dT a kvs ea =>
  cases (show u=E2 a from rx)
  obtain ⟨_,_,xs,_,o,es,ep,h1,h2,_⟩:=(show ba X.prog X.w H s.heap a (.dT kvs) from I.hok a _ ea)
  exact GB Mg I.kIn ⟨o,h1,h2.1⟩ e (λz=>nomatch z) h
 | @ins a C dx fs ea cl ha hn htk hm =>
  cases (show u=E2 a from rx)
  obtain ⟨mA,O,_⟩:=AN I.hok ea
  obtain ⟨od,J,_⟩:=O.look
  exact GB (PySem.W.kitx_own (cl.get _) cl.hd ha hn htk hm) I.kIn J e (λz=>nomatch z) h
end
structure dB (k:Nat)(A:FN):Prop where
 hd:A.handled=none
 dp:A.depth+3*k+5<recursionLimit
 un:A.units+16*k+200<cLine
theorem dB.mono {j k:Nat}{A:FN}(r:dB k A)(h:j<=k):dB j A:=⟨r.hd,by have:=r.dp;lia,by have:=r.un;lia⟩
theorem dB.deeper {k:Nat}{A:FN}(r:dB (k+1) A)(env:Env):dB k (A.deeper env) :=
 ⟨r.hd,by have:=r.dp;show A.depth+1+3*k+5<_;lia,by have:=r.un;show A.units+3+16*k+200<_;lia⟩
theorem dB.depth {k:Nat}{A:FN}(r:dB k A):A.depth<recursionLimit:=by have:=r.dp;lia
theorem dB.units {k:Nat}{A:FN}(r:dB k A):A.units+64<cLine:=by have:=r.un;lia
def tNil:TA:=λ_ H Q=>Q [] H
def DH (ta:TE)(tr:TA):TA:=λσ H Q=>ta σ H λx H1=>tr σ H1 λxs H2=>Q (x :: xs) H2
section
variable  {X:Cx}{e:Expr}{es:List Expr}{te:TE}{t:TA}{pos:Pos}
theorem ag:PA X [] tNil:=λ_ _ _ _ H Q I h=>Mh ⟨[],H,I,.nil,h⟩
theorem aa (ha:PE X e te)(hr:PA X es t)(hs:FT (e :: es) X.env=(false,eval e X.env) :: FT es X.env:=by rfl):PA X (e :: es) (DH te t):=by
 intro pos pins s σ H Q I h
 rw[hs]
 show E4 _ _ (spliced ((false,eval e X.env) :: Jn pos (FT es X.env))) _ _ s
 refine LS (thn (ha pins s σ H _ I h) λu s1 ⟨x,H1,I1,r1,q1⟩ =>?_)
 exact thn (hr pos pins s1 σ H1 _ I1 q1) λus s2 ⟨xs,H2,I2,r2,q2⟩=>⟨x :: xs,H2,I2,.cons r1 r2,q2⟩
def tTup (t:TA):TE:=λσ H Q=>t σ H λxs H1=>xs.length<=ES/\∀p,H1 p=none->Q (.ref p) (upd H1 p (.tup xs))
def tLst (t:TA):TE:=λσ H Q=>t σ H λxs H1=>xs.length<=ES/\∀p,H1 p=none->Q (.ref p) (upd H1 p (.lst xs))
theorem bw {x1}(h:PA X es t):PE X (.Tuple es x1 pos) (tTup t):=by
 intro pins s σ H Q I hq
 refine wpAny_Tuple_spliced (thn (h pos pins s σ H _ I hq) λus s1 ⟨xs,H1,I1,r,z,q⟩=>⟨by rw[<- r.length];exact z,?_⟩)
 have hf:H1 s1.heap.objs.size=none:=I1.hok.fresh (EI _)
 refine ⟨.ref s1.heap.objs.size,upd H1 s1.heap.objs.size (.tup xs),I1.laid (t':=s1.toks) (λb u e=>Ey _ e) (EI _) ?_,rfl,q _ hf⟩
 exact ⟨z,us,r,⟨_,EK _ rfl,⟨rfl,rfl⟩,_,rfl⟩⟩
theorem cy (h:PA X es t):PE X (.List es pos) (tLst t):=by
 intro pins s σ H Q I hq
 refine wpAny_List_spliced (thn (h pos pins s σ H _ I hq) λus s1 ⟨xs,H1,I1,r,z,q⟩=>⟨by rw[<- r.length];exact z,?_⟩)
 have hf:H1 s1.heap.objs.size=none:=I1.hok.fresh (EI _)
 refine ⟨.ref s1.heap.objs.size,upd H1 s1.heap.objs.size (.lst xs),I1.laid (t':=s1.toks) (λb u e=>Ey _ e) (EI _) ?_,rfl,q _ hf⟩
 exact ⟨z,us,0,r,EK _ rfl⟩
end
abbrev Sp:=List V->Hp->VK->XK->Prop
abbrev CXT:=List Env->Hp->EG->XK->EB->EG->Prop
structure AO (P:EV)(w:Fm)(K:Ez)(mg:Str->Option EB)(base:Heap)(A:FN)(outer:List Env)(s:EG)(H:Hp):Prop where
 frames:A.frames=some outer
 mod:Mod K mg base
 bs:∀b o,base.get? b=some o->s.heap.get? b=some o/\H b=none
 bsz:base.objs.size<=s.heap.objs.size
 funs:s.heap.FunFrames base outer
 frf:∀b∈frs outer,H b=none
 hok:HOk P w H s.heap
 bare:AllBare s.gens
def CE (outer:List Env)(P:EV)(w:Fm)(H:Hp)(s:EG)(Q:VK)(u:EB)(s':EG):Prop :=
 ∃v H',s'.os=s.os/\AllBare s'.gens/\Un (frs outer) [] H H' s.heap s'.heap/\HOk P w H' s'.heap/\RelV v u/\Q v H'
def CR (CX:CXT)(outer:List Env)(P:EV)(w:Fm)(H:Hp)(s:EG)(Q:VK)(E:XK)(r:Result)(s':EG):Prop :=
 match r with
 | .ok (.ret u)=>CE outer P w H s Q u s'
 | .ok _=>False
 | .error e=>CX outer H s E e s'
structure aV (P:EV)(w:Fm)(K:Ez)(mg:Str->Option EB)(base:Heap)(CX:CXT)(k:Nat)(f:Addr)(fd:Fi)(ps:List Str)(sp:Sp):Prop where
 len:∀vs H Q E,sp vs H Q E->vs.length=ps.length
 run:∀(A:FN) (outer:List Env) (s:EG) (H:Hp) (args:Args) (us:List EB) (vs:List V) (Q:VK) (E:XK),dB k A->AO P w K mg base A outer s H->BindsTo s fd args (ps.zip us)->Vals vs us->sp vs H Q E →
  IW (Fq P w) A (.call (.ref f) args) (CR CX outer P w H s Q E) s
section
variable  {X:Cx}{pins:List (Addr×Obj)}{σ:St}{H:Hp}{s s':EG}
theorem Inv.env0 (I:Inv X pins σ H s):AO X.prog X.w X.K X.mg X.base X.A X.stack s H :=
 ⟨I.ok.frames,I.ok.mod,I.bs,Ff I.ok.bsz I.sz,I.stack,I.pO,I.hok,I.bare⟩
theorem Inv.after {Q:VK}{u:EB}(I:Inv X pins σ H s)(h:CE X.stack X.prog X.w H s Q u s'):EP X pins σ Q u s':=by
 obtain ⟨v,H',os,bare,un,hok,r,q⟩:=h
 obtain ⟨hh,g,d,t,os'⟩:=s'
 obtain rfl:os'=s.os:=os
 exact ⟨v,H',I.call (h':=hh) (g':=g) (d':=d) (t':=t) (ch:=[]) un hok bare (λb z=>absurd z (by simp)),r,q⟩
end
def yI (sp:Sp)(dvs:List V)(E:XK)(t:TA):TE:=λσ H Q=>t σ H λvs H1=>sp (vs++dvs) H1 Q E
def Binds (K:Ez)(fd:Fi)(ps:List Str)(ds:List EB):Prop :=
 ∀(s:EG) (us:List EB),K.In s.heap->(us++ds).length=ps.length->BindsTo s fd ⟨us,[]⟩ (ps.zip (us++ds))
theorem Binds.all {K:Ez}{fd:Fi}{ps:List Str}(h:∀us:List EB,us.length=ps.length->bindArgs fd ⟨us,[]⟩=pure (ps.zip us)):Binds K fd ps []:=λs us _ hl=>by
 rw[FQ] at hl ⊢
 exact .of_eq (h us hl)
def Passes (CX:CXT)(X:Cx)(E:XK):Prop:=∀(pins:List (Addr×Obj)) (σ:St) (H:Hp) (s:EG) (e:EB) (s':EG),Inv X pins σ H s->CX X.stack H s E e s'->X.xe e s'
section
variable  {X:Cx}{CX:CXT}{k:Nat}{f C:Addr}{fd:Fi}{ps:List Str}{sp:Sp}{dvs:List V}{ds:List EB}{E:XK}{x m:Str}{p pos apos:Pos}{e o:Expr}{es:List Expr}{ta:TE}{t:TA}
theorem CB {pins:List (Addr×Obj)}{σ:St}{H:Hp}{s:EG}{Q:VK}{us:List EB}{vs:List V}(F:aV X.prog X.w X.K X.mg X.base CX k f fd ps sp)(hr:dB k X.A)(hb:Binds X.K fd ps ds)(hd:Vals dvs ds)(hx:Passes CX X E)
  (I:Inv X pins σ H s) (r:Vals vs us) (h:sp (vs++dvs) H Q E):E4 (Fq X.prog X.w) X.A (call (.ref f) us) (EP X pins σ Q) X.xe s:=by
 have r2:Vals (vs++dvs) (us++ds):=r.append hd
 have hl:(us++ds).length=ps.length:=by rw[<- r2.length];exact F.len _ _ _ _ h
 refine Mw (Jc (F.run X.A X.stack s H ⟨us,[]⟩ (us++ds) (vs++dvs) Q E hr I.env0 (hb s us I.kIn hl) r2 h) λr s' hq =>?_)
 cases r with
 | error e=>exact hx pins σ H s e s' I hq
 | ok fl =>
  cases fl with
  | ret u=>exact I.after hq
  | next=>exact False.elim hq
  | brk=>exact False.elim hq
  | cont=>exact False.elim hq
theorem vc (F:aV X.prog X.w X.K X.mg X.base CX k f fd ps sp)(hr:dB k X.A)(hg:Gl X x)(hm:X.mg x=some (.ref f))(hk:PySem.W.keepIn X.K (.ref f)=true)(hb:Binds X.K fd ps ds)(hd:Vals dvs ds)(hx:Passes CX X E)
  (ha:PA X (e :: es) t) (hdb:(x == ("__debug__" : Str))=false:=by decide) (he:FT (e :: es) X.env=(false,eval e X.env) :: FT es X.env:=by rfl) (hpl:(Jn pos (FT es X.env)).any (·.1)=false:=by rfl) :
  PE X (.Call (.Name x p) (e :: es) [] pos) (yI sp dvs E t):=by
 intro pins s σ H Q I h
 refine HQ (u5 I hg hm ?_ hdb)
 refine PySem.W.callWith_K (h₀:=X.base) I.ok.mod.kin hk (thn (ha pos pins s σ H _ I h) λus s1 ⟨vs,H1,I1,r,q⟩=>⟨I1.kIn,?_⟩) he hpl
 exact CB F hr hb hd hx I1 r q
end
section
variable  {X:Cx}{CX:CXT}{k:Nat}{f C:Addr}{fd:Fi}{ps ks:List Str}{sp:Sp}{E:XK}{x m:Str}{p pos apos kpos:Pos}{e o:Expr}{es:List Expr}{kws:List Keyword}{te ta:TE}{t tk:TA}{nm:Option Str}
variable  {g:List EB->List EB->List EB}{gV:List V->List V->List V}
end
structure aG (N P:List Str)(sc:Scope):Prop where
 kind:sc.kind = .function
 co:sc.isCoroutine=false
 gen:sc.isGenerator=false
 nd:N.Nodup
 pre:N.take P.length=P
 par:∀x∈P,sc.names.lookup x=some .local\/sc.names.lookup x=some .cell
 nofree:∀y∈sc.names,y.2 ≠ .free
theorem oF {kindOf:Str->Option NameKind}{x:Str}:∀{binds:List (Str×EB)} {m:Str->Option EB},(∀v,(x,v)∉binds)->bindL kindOf binds m x=m x
 | [],_,_=>rfl
 | (n,v) :: r,m,h=>by
  unfold bindL
  rw[oF λw hw=>h w (E8 _ hw)]
  split
  ·have:x≠n:=by rintro rfl;exact h v E7
   simp[this]
  ·rfl
theorem oG {kindOf:Str->Option NameKind}{x:Str}:∀{binds:List (Str×EB)} {m:Str->Option EB},(∀v,(x,v)∉binds)->bindC kindOf binds m x=m x
 | [],_,_=>rfl
 | (n,v) :: r,m,h=>by
  unfold bindC
  rw[oG λw hw=>h w (E8 _ hw)]
  split
  ·rfl
  ·have:x≠n:=by rintro rfl;exact h v E7
   simp[this]
theorem oH {kindOf:Str->Option NameKind}{x:Str}{v:EB}:∀{P:List Str} {vs:List EB} {i:Nat} {m:Str->Option EB},P.Nodup->P[i]? = some x->vs[i]? = some v->kindOf x=some .local →
  bindL kindOf (P.zip vs) m x=some v
 | [],_,_,_,_,h,_,_=>by simp at h
 | _ :: _,[],_,_,_,_,h,_=>by simp at h
 | p :: P,w :: vs,0,m,nd,h1,h2,hk=>by
  simp at h1 h2;subst h1;subst h2
  show bindL kindOf ((p,w) :: P.zip vs) m p=_
  unfold bindL
  rw[oF λv hv=>(Hn.mp nd).1 (K6 hv).1,if_pos hk]
  simp
 | p :: P,w :: vs,i+1,m,nd,h1,h2,hk=>by
  show bindL kindOf ((p,w) :: P.zip vs) m x=_
  unfold bindL
  exact oH (i:=i) (Hn.mp nd).2 (by simpa using h1) (by simpa using h2) hk
theorem oI {kindOf:Str->Option NameKind}{x:Str}{v:EB}:∀{P:List Str} {vs:List EB} {i:Nat} {m:Str->Option EB},P.Nodup->P[i]? = some x->vs[i]? = some v->kindOf x≠some .local →
  bindC kindOf (P.zip vs) m x=some v
 | [],_,_,_,_,h,_,_=>by simp at h
 | _ :: _,[],_,_,_,_,h,_=>by simp at h
 | p :: P,w :: vs,0,m,nd,h1,h2,hk=>by
  simp at h1 h2;subst h1;subst h2
  show bindC kindOf ((p,w) :: P.zip vs) m p=_
  unfold bindC
  rw[oG λv hv=>(Hn.mp nd).1 (K6 hv).1,if_neg hk]
  simp
 | p :: P,w :: vs,i+1,m,nd,h1,h2,hk=>by
  show bindC kindOf ((p,w) :: P.zip vs) m x=_
  unfold bindC
  exact oI (i:=i) (Hn.mp nd).2 (by simpa using h1) (by simpa using h2) hk
def start (N:List Str)(vs:List V):St:=vs.map some++Fn (N.length-vs.length) none
def ku (CX:CXT)(P:EV)(w:Fm)(K:Ez)(mg:Str->Option EB)(base:Heap)(N:List Str)(qual:Str)(scope:Scope)(f:Addr)(cd:EB)(A:FN)(outer:List Env)(s:EG)(H:Hp)(E:XK):Cx where
 prog:=P
 w:=w
 K:=K
 mg:=mg
 base:=base
 A:=A.deeper (envOfC qual scope s.heap.objs.size f cd)
 N:=N
 s₀:=s
 H₀:=H
 env:=envOfC qual scope s.heap.objs.size f cd
 outer:=outer
 stack:=envOfC qual scope s.heap.objs.size f cd :: outer
 ex:=[]
 calm:=true
 fn:=λ_=>true
 pn:=[]
 xe:=λe s'=>E4 (Fq P w) (A.deeper (envOfC qual scope s.heap.objs.size f cd)) (leaving (envOfC qual scope s.heap.objs.size f cd) e) (λ_ s''=>CX outer H s E e s'') (λe' s''=>CX outer H s E e' s'') s'
theorem rp {sc:Scope}{n:Nat}{x:Str}(h:sc.names.lookup x=some .cell):∃c,(cellsFrom n sc.names []).lookup x=some c:=by
 have q:=KY sc.names n [] (.inl h)
 exact IX.mp q
theorem wW {CX:CXT}{P:EV}{w:Fm}{K:Ez}{mg:Str->Option EB}{base:Heap}{N ps:List Str}{qual:Str}{scope:Scope}{f:Addr}{cd:EB}{A:FN}{outer:List Env}{s s1:EG}{H:Hp}{E:XK}{us:List EB}{vs:List V}
  (S:aG N ps scope) (hd:A.handled=none) (e0:AO P w K mg base A outer s H) (hl:vs.length=ps.length) (r:Vals vs us)
  (x:InCallC s s.heap.objs.size (bindL (envOfC qual scope s.heap.objs.size f cd).kindOf (ps.zip us) λ_=>none) (cellsFrom (s.heap.objs.size+1) scope.names []) (bindC (envOfC qual scope s.heap.objs.size f cd).kindOf (ps.zip us) λ_=>none) s1) :
  Inv (ku CX P w K mg base N qual scope f cd A outer s H E) [] (start N vs) H s1:=by
 have hpl:ps.length<=N.length:=by have:=congrArg List.length S.pre;rw[Fz] at this;lia
 obtain ⟨h1,tk,rfl,hk⟩:=x.done
 have noA:∀b:Addr,b∉(ku CX P w K mg base N qual scope f cd A outer s H E).ex:=λb z=>absurd (show b∈([]:List Addr) from z) (by simp)
 refine ⟨⟨e0.mod,S.kind,rfl,rfl,EI _,λy z c h1 h2 =>?_,λy hy =>?_,λy c _ h =>?_,λ_=>hd,Around.frames_deeper e0.frames,.inr ⟨rfl,rfl⟩,λb z=>absurd z (noA b),e0.bs,e0.bsz,λb _ _=>noA b,λb z=>absurd z (noA b),e0.funs,e0.frf⟩,
  rfl,e0.bare,Un.kept hk,⟨_,x.toInCall.ns,λi y v h1 h2 h3 =>?_⟩,λy c h=>⟨_,x.cell y c h⟩,e0.hok.fresh (EI _),λy c h =>?_,λp hp=>absurd (show p∈([]:List (Addr×Obj)) from hp) (by simp),e0.hok.kept hk,?_⟩
 ·exact name_of_addr x.apart (GC h1) (GC h2)
 ·have hy:scope.names.lookup y=some .cell\/scope.names.lookup y=some .free:=hy
  rcases hy with hy | hy
  ·exact rp hy
  ·exact absurd rfl (S.nofree _ (GC hy))
 ·exact Gz (x.above y c (GC h))
 ·have hi:i<vs.length:=by
   unfold start at h2
   by_cases hi:i<vs.length
   ·exact hi
   ·rw[E6 (by simpa using hi)] at h2
    rw[Je] at h2
    split at h2 <;> cases h2
  have ha:vs[i]? = some v:=by
   unfold start at h2
   rw[E1 (by simpa using hi),ET] at h2
   cases e:vs[i]? with
   | none=>rw[e] at h2;cases h2
   | some a=>rw[e] at h2;cases h2;rfl
  obtain ⟨u,hu,rv⟩:=r.get ha
  have hp:ps[i]? = some y:=by
   rw[<- S.pre,List.getElem?_take_of_lt (by lia)];exact h1
  have ndP:ps.Nodup:=by rw[<- S.pre];exact S.nd.sublist (List.take_sublist _ _)
  refine ⟨u,rv,?_⟩
  rcases S.par y (EH hp) with k | k
  ·exact .inl ⟨k,oH ndP hp hu k⟩
  ·obtain ⟨c,e⟩:=rp (n:=s.heap.objs.size+1) k
   refine .inr ⟨.inl k,c,e,?_⟩
   have q:=x.cell y c e
   rw[oI ndP hp hu (by show scope.names.lookup y≠_;rw[k];decide)] at q
   exact q
 ·exact e0.hok.fresh (Gz (x.above y c (GC h)))
 ·unfold start
  show _=N.length
  rw[EE,Ex,Ho]
  lia
theorem B3 {CX:CXT}{P:EV}{w:Fm}{K:Ez}{mg:Str->Option EB}{base:Heap}{k:Nat}{f:Addr}{name qual:Str}{params:Arguments}{body:List Stmt}{scope:Scope}{dV kV doc pm cdv ct oc:EB}{an od:Option Addr}
  {osl:Array (Option EB)} {N ps:List Str} {sp:Sp} (lk:K.lookup f=some ⟨oc,od,.func (PySem.W.fnOf name qual params body scope dV kV doc pm an cdv ct),osl⟩) (hcd:PySem.W.codeIn K cdv qual=true) (S:aG N ps scope)
  (len:∀vs H Q E,sp vs H Q E->vs.length=ps.length)
  (hbody:∀(A:FN) (outer:List Env) (s:EG) (H:Hp) (vs:List V) (Q:VK) (E:XK),dB k (A.deeper (envOfC qual scope s.heap.objs.size f cdv))->sp vs H Q E →
   ∃t,PSs (ku CX P w K mg base N qual scope f cdv A outer s H E) body t/\t { nx:=λ_ H'=>Q .non H',rt:=Q } (start N vs) H) :
  aV P w K mg base CX (k+1) f (PySem.W.fnOf name qual params body scope dV kV doc pm an cdv ct) ps sp:=by
 refine ⟨len,λA outer s H args us vs Q E hr e0 hb r hsp =>?_⟩
 have hl:=len _ _ _ _ hsp
 have KX:K.In s.heap:=e0.mod.kin.keeps λb o e=>(e0.bs b o e).1
 have lim:s.heap.NoLimit:=e0.mod.nolimit.keeps λb o e=>(e0.bs b o e).1
 have hkind:∀y∈ps.zip us,scope.names.lookup y.1=some .local\/(scope.names.lookup y.1=some .cell/\((cellsFrom (s.heap.objs.size+1) scope.names []).lookup y.1).isSome=true):=λ⟨n,v⟩ hy=>by
  rcases S.par n (K6 hy).1 with q | q
  ·exact .inl q
  ·exact .inr ⟨q,KY _ _ _ (.inl q)⟩
 refine codeAny_call_function hr.depth (KX _ _ lk) rfl S.co S.gen rfl (PySem.W.codeRec_of KX hcd) (hb _ _ _ _ ?_)
 refine wpAny_newFunctionEnv_cells S.kind hkind λenv he s1 x =>?_
 subst he
 refine ⟨lim.keeps x.toInCall.keep,codeAny_func ?_⟩
 obtain ⟨t,ht,hq⟩:=hbody A outer s H vs Q E (hr.deeper _) hsp
 have I:Inv (ku CX P w K mg base N qual scope f cdv A outer s H E) [] (start N vs) H s1:=wW S hr.hd e0 hl r x
 refine Hh (ht [] s1 (start N vs) H _ I hq) (λfl s' hs =>?_) λe s' hs=>hs
 have fin:∀{σ':St} {H':Hp} {v:V} {u:EB},Inv (ku CX P w K mg base N qual scope f cdv A outer s H E) [] σ' H' s'->RelV v u->Q v H'->CE outer P w H s Q u s' :=
  λ{σ' H' v u} J rv q=>⟨v,H',J.os,J.bare,J.base,J.hok,rv,q⟩
 cases fl with
 | ret u =>
  obtain ⟨v,σ',H',J,rv,q⟩:=hs
  exact fin J rv q
 | next =>
  obtain ⟨σ',H',J,q⟩:=hs
  exact fin (v:=V.non) (u:=GV) J rfl q
 | brk =>
  obtain ⟨_,_,_,q⟩:=hs
  exact False.elim q
 | cont =>
  obtain ⟨_,_,_,q⟩:=hs
  exact False.elim q
section
variable  {X:Cx}{x:Str}{p pos:Pos}{e:Expr}{es:List Expr}{t:TA}{id T:String}{r:List V->Hp->VK->Prop}
def tCB (r:List V->Hp->VK->Prop)(t:TA):TE:=λσ H Q=>t σ H λvs H1=>r vs H1 Q
theorem aI (hc:bD X (.builtin id) r)(hg:Gl X x)(hm:X.mg x=none)(hv:F1 x=some (.builtin id))(ha:PA X (e :: es) t)(hn:x ≠ "__name__" := by decide)(hdb:(x == ("__debug__" : Str))=false:=by decide)
  (he:FT (e :: es) X.env=(false,eval e X.env) :: FT es X.env:=by rfl) (hpl:(Jn pos (FT es X.env)).any (·.1)=false:=by rfl):PE X (.Call (.Name x p) (e :: es) [] pos) (tCB r t):=by
 intro pins s σ H Q I h
 refine HQ (eO I hg hm hv ?_ hn hdb)
 exact PyProof.Rows.callWith_builtin1 (thn (ha pos pins s σ H _ I h) λus s1 ⟨vs,H1,I1,r1,q1⟩=>hc pins s1 σ H1 vs us Q I1 r1 q1) he hpl
theorem bq (hc:bD X (.type T) r)(hg:Gl X x)(hm:X.mg x=none)(hv:F1 x=some (.type T))(ha:PA X (e :: es) t)(hn:x ≠ "__name__" := by decide)(hdb:(x == ("__debug__" : Str))=false:=by decide)
  (he:FT (e :: es) X.env=(false,eval e X.env) :: FT es X.env:=by rfl) (hpl:(Jn pos (FT es X.env)).any (·.1)=false:=by rfl):PE X (.Call (.Name x p) (e :: es) [] pos) (tCB r t):=by
 intro pins s σ H Q I h
 refine HQ (eO I hg hm hv ?_ hn hdb)
 exact GA (thn (ha pos pins s σ H _ I h) λus s1 ⟨vs,H1,I1,r1,q1⟩=>hc pins s1 σ H1 vs us Q I1 r1 q1) he hpl
end
end L2
namespace HT
open PySem PyProof.Rows
def lexLt:List Int->List Int->Bool
 | [],[]=>false
 | [],_ :: _=>true
 | _ :: _,[]=>false
 | x :: xs,y :: ys=>if x=y then lexLt xs ys else decide (x<y)
theorem dM (x y:Int)(xs ys:List Int):lexLt (x :: xs) (y :: ys)=if x=y then lexLt xs ys else decide (x<y):=rfl
theorem n6:lexLt [] []=false:=rfl
theorem mI (y:Int)(ys:List Int):lexLt [] (y :: ys)=true:=rfl
theorem mJ (x:Int)(xs:List Int):lexLt (x :: xs) []=false:=rfl
theorem yJ (A:FN)(s:EG)(a:Int)(t:Tok)(c:Int)(u:Tok):∃e,Ls A s (.int a t) (.int c u) e/\(e=true↔a=c) :=
 ⟨(a == c),Jf a t c u,by simp⟩
theorem rq (A:FN)(s:EG)(a:Int)(t:Tok)(c:Int)(u:Tok)(prog:EV)(w:Fm)(E:EB->EG->Prop)(Q:EB->EG->Prop)(h:Q (.bool (decide (a<c))) s) :
  E4 (Fq prog w) A (richCompare .Lt (.int a t) (.int c u)) Q E s :=
 (PyProof.Rows.lt_int h:E4 (Fq prog w) A (Gw .Lt (.int a t) (.int c u)) Q E s)
section
open PySem.SeqAt
open PySem.AutoSeq1 (wpAny_loadPart')
open PySem.MeetsSeq PySem.MeetsSeq2 PySem.MeetsSeq3
theorem n8 (l b:Addr)(items items2:Array EB)(n n2:Nat)(dd dd2:Option Addr)(sl sl2:Array (Option EB))(ns ms:List Int)(hi:Hj items.toList ns)(hj:Hj items2.toList ms) :
  Meets (Builtin.«tuple.__lt__» ⟨[.ref l,.ref b],[]⟩)
   (λ_ R s=>s.heap.get? l=some { cls :=.type "tuple",dict:=dd,data :=.seq items n,slots:=sl }/\s.heap.get? b=some { cls :=.type "tuple",dict:=dd2,data :=.seq items2 n2,slots:=sl2 } ∧
    R (.ok (.ret (.bool (lexLt ns ms)))) s) :=
 .of_wp λprog w A R s h=>by
  obtain ⟨hp,g,d,tk,os⟩:=s;obtain ⟨hl,hb,h⟩:=h
  have f2:=AutoSeq1.sub_tuple_tuple
  have z1:items.size=ns.length:=by rw[<- hi.length];simp
  have z2:items2.size=ms.length:=by rw[<- hj.length];simp
  wp_walk using wpAny_loadPart' hl,wpAny_loadPart' hb,IT _ (λrest b s'=>b.1=none/\s'=⟨hp,g,d,tk,os⟩/\∃(vs ws:List EB) (ns' ms':List Int),rest=vs.zip ws ∧
   Hj vs ns'/\Hj ws ms'/\ns'.length+items2.size=ms'.length+items.size/\R (.ok (.ret (.bool (lexLt ns' ms')))) ⟨hp,g,d,tk,os⟩) _
  case turn =>
   rintro ⟨y,x⟩ rest b s' ⟨hb',rfl,vs,ws,ns',ms',hz,hvi,hwi,hlen,hR⟩
   cases hvi with
   | nil=>rw[List.zip_nil_left] at hz;cases hz
   | cons a t hvi' =>
    cases hwi with
    | nil=>rw[List.zip_nil_right] at hz;cases hz
    | cons c u hwi' =>
     rw[Jg] at hz
     injection hz with hyx hrest
     injection hyx with hy hx
     subst hy hx
     rw[dM] at hR
     simp only[Fg] at hlen
     obtain ⟨e,he,hiff⟩:=yJ A.in1 ⟨hp,g,d,tk,os⟩ a t c u
     refine Ew (he prog w _ _ ?_)
     cases e with
     | true =>
      rw[if_pos (hiff.mp rfl)] at hR
      wp_walk
      exact ⟨rfl,rfl,_,_,_,_,hrest,hvi',hwi',by lia,hR⟩
     | false =>
      rw[if_neg (λq=>absurd (hiff.mpr q) EO)] at hR
      have hri:=rq A.in1 ⟨hp,g,d,tk,os⟩ a t c u prog w
      wp_walk using hri
      exact ⟨_,rfl,by simpa using hR⟩
  case fin =>
   rintro ⟨b1,b2⟩ s' ⟨hb',rfl,vs,ws,ns',ms',hz,hvi,hwi,hlen,hR⟩
   simp only at hb'
   subst hb'
   have hv:lexLt ns' ms'=decide (items.size<items2.size):=by
    cases hvi with
    | nil =>
     cases hwi with
     | nil =>
      simp only[G9] at hlen
      rw[n6]
      exact (decide_eq_false (by lia)).symm
     | cons c u hw =>
      simp only[G9,Fg] at hlen
      rw[mI]
      exact (decide_eq_true (by lia)).symm
    | cons a t hv =>
     cases hwi with
     | nil =>
      simp only[G9,Fg] at hlen
      rw[mJ]
      exact (decide_eq_false (by lia)).symm
     | cons c u hw =>
      rw[Jg] at hz
      cases hz
   rw[hv] at hR
   wp_walk
   exact ⟨_,rfl,by simpa [Builtin.Tuple.tupleCompareSizes] using hR⟩
  case h =>
   exact ⟨rfl,rfl,items.toList,items2.toList,ns,ms,rfl,hi,hj,by lia,h⟩
end
section
variable  {prog:EV}{w:Fm}{A:FN}{E:EB->EG->Prop}{s:EG}
theorem tP {l b:Addr}{items items2:Array EB}{ns ms:List Int}{Q:EB->EG->Prop}(hl:IsTup s.heap l items)(hb:IsTup s.heap b items2)(hi:Hj items.toList ns)(hj:Hj items2.toList ms)
  (hu:A.units<cLine) (h:Q (.bool (lexLt ns ms)) s):E4 (Fq prog w) A (Gw .Lt (.ref l) (.ref b)) Q E s:=by
 obtain ⟨⟨cls,dd,data,sl⟩,ho,hc,n,hd⟩:=id hl
 obtain ⟨⟨cls2,dd2,data2,sl2⟩,ho2,hc2,n2,hd2⟩:=id hb
 simp only at hc hd hc2 hd2
 subst hc hd hc2 hd2
 exact Jm (op :=.Lt) ⟨_,ho,rfl⟩ ⟨_,ho2,rfl⟩ PySem.F.slot_tuple_lt PySem.F.entry_tuple_lt (PySem.F.args_tuple_lt_2 _ _) (n8 l b items items2 n n2 dd dd2 sl sl2 ns ms hi hj)
  ⟨ho,ho2,show Value.bool (lexLt ns ms)≠Value.notImplemented/\Q (.bool (lexLt ns ms)) s from ⟨(λx=>nomatch x),h⟩⟩ hu
theorem AQ {t b:Addr}{vs ws:List EB}{Q:EB->EG->Prop}(ht:IsTup s.heap t vs.toArray)(hb:IsTup s.heap b ws.toArray)(hv:vs≠[])
  (h1:ws=[]->Q (.ref t) s) (h2:ws≠[]->Q (.ref s.heap.objs.size) { s with heap:=s.heap.push { cls :=.type "tuple",data :=.seq (vs++ws).toArray } })
  (hsz:vs.length+ws.length<=ES):E4 (Fq prog w) A (binaryOp .Add (.ref t) (.ref b)) Q E s:=by
 obtain ⟨⟨cls,dd,data,sl⟩,ho,hc,n,hd⟩:=id ht
 obtain ⟨⟨cls2,dd2,data2,sl2⟩,ho2,hc2,n2,hd2⟩:=id hb
 simp only at hc hd hc2 hd2
 subst hc hd hc2 hd2
 have e:vs.toArray++ws.toArray=(vs++ws).toArray:=by simp
 by_cases hw:ws=[]
 ·exact Li ⟨_,ho,rfl⟩ ⟨_,ho2,rfl⟩ KS L7 Jl Jh (IY _ _)
   (tuple_addW1 t b vs.toArray ws.toArray n n2 dd dd2 sl sl2 (by simpa using hv) (by simp[hw])) ⟨ho,ho2,h1 hw⟩
 ·refine Li ⟨_,ho,rfl⟩ ⟨_,ho2,rfl⟩ KS L7 Jl Jh (IY _ _)
   (tuple_addW2 t b vs.toArray ws.toArray n n2 dd dd2 sl sl2 (by simpa using hv) (by simpa using hw) (by rw[EM,EM];exact hsz)) ⟨ho,ho2,?_⟩
  rw[e]
  exact h2 hw
def sIx (n d:Nat):Option Int->Nat
 | none=>d
 | some v=>if v<0 then (v+(n:Int)).toNat else min v.toNat n
theorem yK (n d:Nat):sIx n d none=d:=rfl
theorem AR (n d k:Nat):sIx n d (some (k:Int))=min k n:=by
 show (if (k:Int)<0 then ((k:Int)+(n:Int)).toNat else min (k:Int).toNat n)=min k n
 rw[if_neg (by lia),GK]
theorem CC (n d:Nat)(hd:d<=n)(o:Option Int):sIx n d o<=n:=by
 cases o with
 | none=>exact hd
 | some v =>
  show (if v<0 then (v+(n:Int)).toNat else min v.toNat n)<=n
  by_cases hv:v<0
  ·rw[if_pos hv];lia
  ·rw[if_neg hv];exact Nat.min_le_right _ _
theorem vd (v:Int)(n d:Nat):(if v<0 then max (v+(n:Int)) 0 else min v (n:Int))=((sIx n d (some v):Nat):Int):=by
 show (if v<0 then max (v+(n:Int)) 0 else min v (n:Int))=(((if v<0 then (v+(n:Int)).toNat else min v.toNat n):Nat):Int)
 by_cases hv:v<0
 ·simp only[if_pos hv];lia
 ·simp only[if_neg hv];lia
theorem tQ (lo hi:Option Int)(n:Nat):Builtin.Slice.sliceAdjust lo hi 1 (n:Int)=(((sIx n 0 lo:Nat):Int),((sIx n n hi:Nat):Int)):=by
 have h1:¬ ((1:Int)<0):=by lia
 unfold Builtin.Slice.sliceAdjust
 simp only[h1,if_false]
 refine LV ?_ ?_
 ·cases lo with
  | none=>rfl
  | some v=>exact vd v n 0
 ·cases hi with
  | none=>rfl
  | some v=>exact vd v n n
theorem tR (i j:Nat):Builtin.Slice.slicePlaces (i:Int) (j:Int) 1=j-i:=by
 unfold Builtin.Slice.slicePlaces
 have h1:(1:Int)>0:=by lia
 simp only[h1,if_true,Int.ediv_one]
 split <;> lia
theorem mK {v:EB}{o:Option Int}{Q:Option Int->EG->Prop}(p:IsPart v o)(h:Q o s):E4 (Fq prog w) A (Builtin.Slice.slicePartIndex v) Q E s:=by
 cases p with
 | none=>exact slicePart_none h
 | int i t=>exact slicePart_int h
theorem fk {sl:Addr}{vl vu:EB}{lo hi:Option Int}{n:Nat}{Q:Int×Int×Nat->EG->Prop}(hs:s.heap.IsSliceOf sl vl vu .none)(pl:IsPart vl lo)(pu:IsPart vu hi)
  (h:Q (((sIx n 0 lo:Nat):Int),1,sIx n n hi-sIx n 0 lo) s):E4 (Fq prog w) A (Builtin.Slice.sliceApplied (.ref sl) (pure (n:Int))) Q E s:=by
 obtain ⟨os,hos,hcs,hds⟩:=id hs
 unfold Builtin.Slice.sliceApplied Builtin.Slice.sliceFields
 refine Ew (Ew (Gf hos hds (x:=vl) rfl (Ew (Gf hos hds (x:=vu) rfl (Ew (Gf hos hds (x :=.none) rfl (EC ?_)))))))
 refine Ew (slicePart_none ?_)
 show E4 _ _ (if ((1:Int) == 0)=true then _ else _) _ _ s
 rw[if_neg (by decide)]
 refine Ew (mK pl (Ew (mK pu (Ew (EC ?_)))))
 show E4 _ _ (match Builtin.Slice.sliceAdjust lo hi 1 (n:Int) with | (lo,hi)=>pure (lo,(1:Int),Builtin.Slice.slicePlaces lo hi 1)) _ _ s
 rw[tQ lo hi n]
 show E4 _ _ (pure (((sIx n 0 lo:Nat):Int),(1:Int),Builtin.Slice.slicePlaces ((sIx n 0 lo:Nat):Int) ((sIx n n hi:Nat):Int) 1)) _ _ s
 rw[tR]
 exact EC h
theorem yL (xs:Array EB)(i k:Nat):((FP k).filterMap λ(m:Nat)=>xs[((i:Int)+(m:Int)*1).toNat]?).toArray=((xs.toList.drop i).take k).toArray:=by
 have e:(λ(m:Nat)=>xs[((i:Int)+(m:Int)*1).toNat]?)=λm=>xs[i+m]? := by
  funext m
  have:((i:Int)+(m:Int)*1).toNat=i+m:=by lia
  rw[this]
 rw[e]
 have:=pick_run xs i k
 rw[List.filterMap_map] at this
 have e2:((λx=>xs[x]?) ∘ λx=>i+x)=λm=>xs[i+m]? := rfl
 rw[e2] at this
 rw[this]
theorem jF {t sl:Addr}{items:Array EB}{vl vu:EB}{lo hi:Option Int}{Q:EB->EG->Prop}(ht:IsTup s.heap t items)(hs:s.heap.IsSliceOf sl vl vu .none)(pl:IsPart vl lo)(pu:IsPart vu hi)
  (hw:¬ (sIx items.size 0 lo=0/\sIx items.size items.size hi=items.size))
  (h:Q (.ref s.heap.objs.size) { s with heap:=s.heap.push { cls :=.type "tuple",data :=.seq ((items.toList.drop (sIx items.size 0 lo)).take (sIx items.size items.size hi-sIx items.size 0 lo)).toArray } })
  (hsz:items.size<=ES):E4 (Fq prog w) A (getItem (.ref t) (.ref sl)) Q E s:=by
 have htake:sizeOk (.seq ((items.toList.drop (sIx items.size 0 lo)).take (sIx items.size items.size hi-sIx items.size 0 lo)).toArray):=by
  show ((items.toList.drop (sIx items.size 0 lo)).take (sIx items.size items.size hi-sIx items.size 0 lo)).toArray.size<=ES
  rw[EM,Fz,FD,E3]
  omega
 have hj:sIx items.size items.size hi<=items.size:=CC _ _ (EI _) hi
 obtain ⟨os,hos,hcs,hds⟩:=id hs
 have hTs:s.TypeIs (.ref sl) "slice" :=⟨os,hos,hcs⟩
 unfold getItem
 try with_reducible refine F0 ?_
 first | refine Ew (EC ?_) | skip
 refine Ew (Mx ht.typeIs (by decide) ?_)
 refine Ew (F7 (name:=Str.ofString "__getitem__") ht.typeIs FU
  (FX FU ht.typeIs entry_tuple_getitem ?_ (L8 _ _)))
 show E4 _ _ (Builtin.Tuple.tupleItemsOf (.ref t) >>= _) _ _ s
 refine Ew (tupleItemsOf_ ht ?_)
 refine Ew (HR hTs ?_)
 rw[if_pos (by decide)]
 refine Ew (fk hs pl pu ?_)
 have hno:¬ ((((sIx items.size 0 lo:Nat):Int) == 0 && (1:Int) == 1 && (sIx items.size items.size hi-sIx items.size 0 lo) == items.size)=true):=by
  intro q
  rw[Fh,Fh] at q
  have q1:((sIx items.size 0 lo:Nat):Int)=0:=eq_of_beq q.1.1
  have q2:sIx items.size items.size hi-sIx items.size 0 lo=items.size:=eq_of_beq q.2
  exact hw ⟨by omega,by omega⟩
 show E4 _ _ (if (((sIx items.size 0 lo:Nat):Int) == 0 && (1:Int) == 1 && (sIx items.size items.size hi-sIx items.size 0 lo) == items.size)=true then _ else _) _ _ s
 rw[if_neg hno,yL]
 first
  | exact Ew (m:=Builtin.Tuple.tupleExact _) (Ft (EC ⟨_,rfl,EC h⟩) htake)
  | exact Ew (m:=Builtin.Tuple.tupleExact _) (Ft (Ew (EC (EC ⟨_,rfl,EC h⟩))) htake)
  | exact Ew (Ew (m:=Builtin.Tuple.tupleExact _) (Ft (EC (EC ⟨_,rfl,EC h⟩)) htake))
  | exact Ew (Ew (m:=Builtin.Tuple.tupleExact _) (Ft (EC ⟨_,rfl,EC h⟩) htake))
end
end HT
namespace L2
open PySem PySem.Spec PyProof.Rows
abbrev TO:=St->Hp->(Option Int->Hp->Prop)->Prop
def PO (X:Cx)(e:Option Expr)(t:TO):Prop :=
 ∀(pins:List (Addr×Obj)) (s:EG) (σ:St) (H:Hp) (Q:Option Int->Hp->Prop),Inv X pins σ H s->t σ H Q →
  E4 (Fq X.prog X.w) X.A (evalPart e X.env) (λu s'=>∃o H',Inv X pins σ H' s'/\IsPart u o/\Q o H') X.xe s
def AS:TO:=λ_ H Q=>Q none H
def DI (t:TE):TO:=λσ H Q=>t σ H λx H1=>∃i,x = .int i/\Q (some i) H1
theorem intsAre_of {ns:List Int}:∀{us:List EB},Vals (ns.map V.int) us->Hj us ns:=by
 induction ns with
 | nil=>intro us r;rw[Jx] at r;cases r;exact .nil
 | cons n ns ih =>
  intro us r
  rw[EZ] at r
  cases r with
  | cons r1 r2 =>
   obtain ⟨t,e⟩:=r1
   subst e
   exact .cons n t (ih r2)
section
variable  {X:Cx}{e:Expr}{te:TE}{lo hi:Option Expr}{tl th:TO}{pos p2:Pos}
theorem cN:PO X none AS:=by
 intro pins s σ H Q I h
 rw[evalPart_none]
 exact EC ⟨none,H,I,.none,h⟩
theorem cO (h:PE X e te):PO X (some e) (DI te):=by
 intro pins s σ H Q I hw
 rw[evalPart_some]
 refine thn (h pins s σ H _ I hw) λu s1 ⟨x,H1,I1,r1,q1⟩ =>?_
 obtain ⟨i,rfl,q⟩:=q1
 obtain ⟨t,rfl⟩:=r1
 exact ⟨some i,H1,I1,.int i t,q⟩
def SlR (X:Cx)(r:V->Option Int->Option Int->Hp->VK->Prop):Prop :=
 ∀(pins:List (Addr×Obj)) (s:EG) (σ:St) (H:Hp) (x:V) (v vl vu:EB) (lo hi:Option Int) (sl:Addr) (Q:VK),Inv X pins σ H s->RelV x v->s.heap.IsSliceOf sl vl vu .none->IsPart vl lo->IsPart vu hi->r x lo hi H Q →
  ∃T id,typeLookup (.type T) "__getitem__" = pure (some (.builtin id))/\s.TypeIs v T/\E4 (Fq X.prog X.w) X.A (getItem v (.ref sl)) (EP X pins σ Q) X.xe s
def tSl (r:V->Option Int->Option Int->Hp->VK->Prop)(te:TE)(tl th:TO):TE:=λσ H Q=>te σ H λx H1=>tl σ H1 λl H2=>th σ H2 λu H3=>r x l u H3 Q
theorem cc {r:V->Option Int->Option Int->Hp->VK->Prop}(hr:SlR X r)(he:PE X e te)(hl:PO X lo tl)(hu:PO X hi th):PE X (.Subscript e (.Slice lo hi none p2) pos) (tSl r te tl th):=by
 intro pins s σ H Q I h
 refine Subscript_ (thn (he pins s σ H _ I h) λv s1 ⟨x,H1,I1,r1,q1⟩ =>?_)
 refine wpAny_Slice (thn (hl pins s1 σ H1 _ I1 q1) λvl s2 ⟨l,H2,I2,pl,q2⟩=>thn (hu pins s2 σ H2 _ I2 q2) λvu s3 ⟨u,H3,I3,pu,q3⟩ =>?_)
 rw[evalPart_none]
 refine EC ?_
 have I4:Inv X pins σ H3 { s3 with heap:=s3.heap.push { cls :=.type "slice",data :=.fields #[vl,vu,.none] } }:=I3.kept (t':=s3.toks) λb ob q=>Ey _ q
 obtain ⟨T,id,hT,ht,hg⟩:=hr pins { s3 with heap:=s3.heap.push { cls :=.type "slice",data :=.fields #[vl,vu,.none] } } σ H3 x v vl vu l u s3.heap.objs.size Q I4 r1 (NF ..) pl pu q3
 show E4 (Fq X.prog X.w) X.A (subscriptTail e (.Slice lo hi none p2) v (.ref s3.heap.objs.size)) (EP X pins σ Q) X.xe { s3 with heap:=s3.heap.push { cls :=.type "slice",data :=.fields #[vl,vu,.none] } }
 exact tail_any (ops:=[.ref s3.heap.objs.size,v]) ht hT hg (by with_unfolding_all rfl)
def cS (xs:List V)(lo hi:Option Int):List V:=(xs.drop (HT.sIx xs.length 0 lo)).take (HT.sIx xs.length xs.length hi-HT.sIx xs.length 0 lo)
theorem lE (xs:List V)(lo hi:Option Int):(cS xs lo hi).length<=xs.length:=by
 unfold cS
 rw[Fz,FD]
 lia
def rSlT (K:Ez):V->Option Int->Option Int->Hp->VK->Prop:=λx lo hi H Q=>∃a xs,x = .ref a/\SqT K H a xs ∧
 ¬ (HT.sIx xs.length 0 lo=0/\HT.sIx xs.length xs.length hi=xs.length)/\∀p,H p=none->Q (.ref p) (upd H p (.tup (cS xs lo hi)))
theorem CD:SlR X (rSlT X.K):=by
 intro pins s σ H x v vl vu lo hi sl Q I rx hs pl pu h
 obtain ⟨a,xs,rfl,hx,hw,q⟩:=h
 cases rx
 obtain ⟨its,r,ht,hz⟩:=I.tuple hx
 have hlen:its.toArray.size=xs.length:=by rw[EM];exact r.length.symm
 refine ⟨"tuple",_,FU.lookup,ht.typeIs,?_⟩
 refine HT.jF ht hs pl pu (by rw[hlen];exact hw) ?_ (by rw[hlen];exact hz)
 rw[hlen]
 refine ⟨.ref s.heap.objs.size,_,I.laid (t':=s.toks) (o :=.tup (cS xs lo hi)) (λb ob q=>Ey _ q) (EI _) ?_,rfl,q _ (I.hok.fresh (EI _))⟩
 exact ⟨Ff (lE xs lo hi) hz,_,(r.drop (HT.sIx xs.length 0 lo)).take (HT.sIx xs.length xs.length hi-HT.sIx xs.length 0 lo),eM.new _ _⟩
def DJ (K:Ez):R2:=λx y H Q=>∃a b xs ys,x = .ref a/\y = .ref b/\SqT K H a xs/\SqT K H b ys/\xs≠[]/\xs.length+ys.length<=ES ∧
 (ys=[]->Q (.ref a) H)/\(ys≠[]->∀p,H p=none->Q (.ref p) (upd H p (.tup (xs++ys))))
theorem Vals.ma {xs:List V}{us:List EB}(r:Vals xs us):us=[]↔xs=[]:=by
 cases r with
 | nil=>simp
 | cons _ _=>simp
theorem AU:OpR X (binaryOp .Add) (DJ X.K):=by
 intro pins s σ H x y v u Q I rx ry h
 obtain ⟨a,b,xs,ys,rfl,rfl,ha,hb,hx,hz,q1,q2⟩:=h
 cases rx
 cases ry
 obtain ⟨its,r1,p1,_⟩:=I.tuple ha
 obtain ⟨its2,r2,p2,_⟩:=I.tuple hb
 refine HT.AQ p1 p2 (λz=>hx (r1.ma.mp z)) (λz=>⟨.ref a,H,I,rfl,q1 (r2.ma.mp z)⟩) (λz =>?_) (by rw[<- r1.length, <- r2.length];exact hz)
 refine ⟨.ref s.heap.objs.size,_,I.laid (t':=s.toks) (o :=.tup (xs++ys)) (λb ob q=>Ey _ q) (EI _) ?_,rfl,q2 (λw=>z (r2.ma.mpr w)) _ (I.hok.fresh (EI _))⟩
 exact ⟨by rw[EE];exact hz,_,r1.append r2,eM.new _ _⟩
end
def ixN (n:Nat)(i:Int):Option Nat:=if 0<=i then (if i<n then some i.toNat else none) else if -(n:Int)<=i then some (i+n).toNat else none
def atI {α:Type}(xs:List α)(i:Int):Option α:=(ixN xs.length i).bind λj=>xs[j]?
theorem ve {n:Nat}{i:Int}{j:Nat}(h:ixN n i=some j):seqIndex? i n=some j/\j<n /\ -(n:Int)<=i/\i<n:=by
 unfold ixN at h
 by_cases h0:0<=i
 ·rw[if_pos h0] at h
  by_cases h1:i<n
  ·rw[if_pos h1] at h
   have e:i.toNat=j:=EX h
   exact ⟨by rw[LM h0 h1,e],by lia,by lia,h1⟩
  ·rw[if_neg h1] at h;cases h
 ·rw[if_neg h0] at h
  by_cases h1 : -(n:Int)<=i
  ·rw[if_pos h1] at h
   have e:(i+n).toNat=j:=EX h
   exact ⟨by rw[ME (by lia) h1,e],by lia,h1,by lia⟩
  ·rw[if_neg h1] at h;cases h
theorem vf {α:Type}{xs:List α}{i:Int}{v:α}(h:atI xs i=some v):∃j,seqIndex? i xs.length=some j/\xs[j]? = some v/\j<xs.length /\ -(xs.length:Int)<=i/\i<xs.length:=by
 unfold atI at h
 cases e:ixN xs.length i with
 | none=>rw[e] at h;cases h
 | some j =>
  rw[e] at h
  obtain ⟨h1,h2,h3,h4⟩:=ve e
  exact ⟨j,h1,h,h2,h3,h4⟩
theorem cC {α:Type}{xs:List α}{j:Nat}{v:α}(h:xs[j]? = some v):atI xs (j:Int)=some v:=by
 have hj:j<xs.length:=(EJ.mp h).1
 have e:ixN xs.length (j:Int)=some j:=by
  unfold ixN
  rw[if_pos (by lia),if_pos (by lia)];simp
 unfold atI;rw[e];exact h
def AV (b:Expr):Prop:=∀o i,subscripted b false o i=operate [o,i] (getItem o i)
def IxR (X:Cx)(r:R2):Prop :=
 ∀(value slice:Expr) (pins:List (Addr×Obj)) (s:EG) (σ:St) (H:Hp) (x y:V) (v u:EB) (Q:VK),Inv X pins σ H s->RelV x v->RelV y u->r x y H Q →
  subscripted slice false v u=operate [v,u] (getItem v u)->E4 (Fq X.prog X.w) X.A (subscriptTail value slice v u) (EP X pins σ Q) X.xe s
def MtR (X:Cx)(id:String)(r:V->List V->Hp->VK->Prop):Prop :=
 ∀(pins:List (Addr×Obj)) (s:EG) (σ:St) (H:Hp) (x:V) (xs:List V) (v:EB) (us:List EB) (Q:VK),Inv X pins σ H s->RelV x v->Vals xs us->r x xs H Q →
  E4 (Fq X.prog X.w) X.A (call (.builtin id) (v :: us)) (EP X pins σ Q) X.xe s
section
variable  {X:Cx}{a b:Expr}{ta tb:TE}{pos:Pos}
theorem ax {r:R2}(hr:IxR X r)(ha:PE X a ta)(hb:PE X b tb)(hs:AV b):PE X (.Subscript a b pos) (tOp r ta tb):=by
 intro pins s σ H Q I h
 exact Subscript_ (Cw ha hb I h λv u s2 x y H2 I2 rx ry q=>hr a b pins s2 σ H2 x y v u Q I2 rx ry q (hs _ _))
def DK (K:Ez):R2:=λx y H Q=>∃p xs i v,x = .ref p/\y = .int i/\SqL K H p xs/\atI xs i=some v/\Q v H
def DL (K:Ez):R2:=λx y H Q=>∃p xs i v,x = .ref p/\y = .int i/\SqT K H p xs/\atI xs i=some v/\Q v H
theorem bz:IxR X (DK X.K):=by
 intro value slice pins s σ H x y v u Q I rx ry h hs
 obtain ⟨p,xs,i,z,rfl,rfl,hq,he,q⟩:=h
 cases rx
 obtain ⟨t,rfl⟩:=ry
 obtain ⟨its,r,pl,hz⟩:=I.list hq
 obtain ⟨j,h1,h2,h3,h4,h5⟩:=vf he
 obtain ⟨w,ew,rw'⟩:=r.get h2
 have hl:=r.length
 have hn:=kq
 have fin:EP X pins σ Q w s:=⟨z,H,I,rw',q⟩
 by_cases h0:0<=i
 ·have hj:i.toNat=j:=by
   rw[LM h0 h5] at h1
   exact EX h1
  exact item_listR pl.isList h0 (by lia) (by rw[hj];simpa using ew) fin hs
 ·have hj:(i+(its.toArray.size:Int)).toNat=j:=by
   rw[ME (by lia) h4] at h1
   rw[EM, <- hl]
   exact EX h1
  exact K3 (x:=w) pl.isList.typeIs slot_list_getitem.lookup
   (wpAny_getItem_list_neg (Q:=λr s'=>r=w/\EP X pins σ Q r s') pl.isList (by lia) (by rw[EM] <;> lia) (by lia) (by rw[hj];simpa using ew) ⟨rfl,fin⟩) hs
theorem av:IxR X (DL X.K):=by
 intro value slice pins s σ H x y v u Q I rx ry h hs
 obtain ⟨p,xs,i,z,rfl,rfl,hq,he,q⟩:=h
 cases rx
 obtain ⟨t,rfl⟩:=ry
 obtain ⟨its,r,pl,hz⟩:=I.tuple hq
 obtain ⟨j,h1,h2,h3,h4,h5⟩:=vf he
 obtain ⟨w,ew,rw'⟩:=r.get h2
 have hl:=r.length
 have hn:=kq
 have fin:EP X pins σ Q w s:=⟨z,H,I,rw',q⟩
 exact K3 (x:=w) pl.typeIs slot_tuple_getitem.lookup
  (getItem_tuple (j:=j) (Q:=λr s'=>r=w/\EP X pins σ Q r s') pl (by lia) (by lia) (by rw[EM, <- hl];exact h1) (by simpa using ew) ⟨rfl,fin⟩) hs
theorem tS (its:List EB)(n j:Nat)(u:EB):He (·.setIfInBounds j u) { cls :=.type "list",data :=.seq its.toArray n }={ cls :=.type "list",data :=.seq (its.set j u).toArray n }:=by
 simp[He]
theorem Inv.lst {pins:List (Addr×Obj)}{σ:St}{H:Hp}{s:EG}{p:Addr}{xs:List V}(I:Inv X pins σ H s)(h:H p=some (.lst xs)) :
  ∃(its:List EB) (n:Nat),Vals xs its/\s.heap.get? p=some { cls :=.type "list",data :=.seq its.toArray n }/\xs.length<=ES:=by
 obtain ⟨z,its,n,r,e⟩:=I.hok p _ h
 exact ⟨its,n,r,e,z⟩
theorem Inv.CF {pins:List (Addr×Obj)}{σ:St}{H:Hp}{s:EG}{p:Addr}{xs ys:List V}{its its':List EB}{n n':Nat}{f:Obj->Obj}(I:Inv X pins σ H s)(h:H p=some (.lst xs))
  (ho:s.heap.get? p=some { cls :=.type "list",data :=.seq its.toArray n }) (hf:f { cls :=.type "list",data :=.seq its.toArray n }={ cls :=.type "list",data :=.seq its'.toArray n' }) (r:Vals ys its') (hz:ys.length<=ES) (t:Nat) :
  Inv X pins σ (upd H p (.lst ys)) { s with heap:=s.heap.update p f,toks:=t }:=by
 have e:(s.heap.update p f).get? p=some { cls :=.type "list",data :=.seq its'.toArray n' }:=by
  rw[FH f ho (by rw[hf] <;> rfl),hf]
 refine I.write (x:=p) (e:=p) (by rw[h];trivial) (.inl rfl) (λb u hb q=>(Fd _ _ (Gn hb)).trans q) ⟨_,e⟩ ?_
 exact ⟨hz,its',n',r,e⟩
def DM:V->V->V->Hp->(Hp->Prop)->Prop:=λo i v H Q=>∃p xs k j,o = .ref p/\i = .int k/\H p=some (.lst xs)/\ixN xs.length k=some j/\Q (upd H p (.lst (xs.set j v)))
theorem set_list:Cu X DM:=by
 intro pins s σ H o i v ov iv u Q I ro ri rv h
 obtain ⟨p,xs,k,j,rfl,rfl,hp,hj,q⟩:=h
 cases ro
 obtain ⟨t,rfl⟩:=ri
 obtain ⟨its,n,r,ho,hz⟩:=I.lst hp
 obtain ⟨h1,h2,h3,h4⟩:=ve hj
 have hl:=r.length
 have hn:=kq
 have I':Inv X pins σ (upd H p (.lst (xs.set j v))) { s with heap:=s.heap.update p (He (·.setIfInBounds j u)) } :=
  I.CF hp ho (tS its n j u) (r.set rv j) (by rw[HD];exact hz) s.toks
 by_cases h0:0<=k
 ·have hk:k.toNat=j:=by
   rw[LM h0 h4] at h1
   exact EX h1
  exact PySem.W.ki_setAt ho h0 (by lia) (by rw[EM, <- hl];exact h4) (by rw[hk];exact ⟨_,I',q⟩)
 ·have hk:(k+(its.toArray.size:Int)).toNat=j:=by
   rw[ME (by lia) h3] at h1
   rw[EM, <- hl]
   exact EX h1
  exact PySem.W.ki_setBack ho (by lia) (by rw[EM, <- hl];exact h3) (by lia) (by rw[hk];exact ⟨_,I',q⟩)
theorem pS (lo hi:Option Int)(n:Nat):(sliceBounds lo hi none n).1=((HT.sIx n 0 lo:Nat):Int)/\(sliceBounds lo hi none n).2.1=((HT.sIx n n hi:Nat):Int)/\(sliceBounds lo hi none n).2.2=1:=by
 refine ⟨?_,?_,rfl⟩
 ·cases lo with
  | none=>simp[sliceBounds,HT.sIx]
  | some i =>
   simp only[sliceBounds,HT.sIx,MG,show (1:Int)>0 by decide,if_true]
   by_cases h:i<0
   ·simp only[h,if_true] <;> lia
   ·simp only[h,if_false] <;> lia
 ·cases hi with
  | none=>simp[sliceBounds,HT.sIx]
  | some i =>
   simp only[sliceBounds,HT.sIx,MG,show (1:Int)>0 by decide,if_true]
   by_cases h:i<0
   ·simp only[h,if_true] <;> lia
   ·simp only[h,if_false] <;> lia
theorem oa (its:List EB)(lo hi:Option Int):slicePick its.toArray lo hi none=((its.drop (HT.sIx its.length 0 lo)).take (HT.sIx its.length its.length hi-HT.sIx its.length 0 lo)).toArray:=by
 obtain ⟨h1,h2,h3⟩:=pS lo hi its.toArray.size
 unfold slicePick
 rw[h1,h2,h3]
 simp only[sliceRange_one,pick_run,EM] <;> rfl
def rSlL (K:Ez):V->Option Int->Option Int->Hp->VK->Prop:=λx lo hi H Q=>∃a xs,x = .ref a/\SqL K H a xs/\∀p,H p=none->Q (.ref p) (upd H p (.lst (cS xs lo hi)))
theorem ig:SlR X (rSlL X.K):=by
 intro pins s σ H x v vl vu lo hi sl Q I rx hs pl pu h
 obtain ⟨a,xs,rfl,hx,q⟩:=h
 cases rx
 obtain ⟨its,r,ht,hz⟩:=I.list hx
 have hlen:=r.length
 refine ⟨"list",_,slot_list_getitem.lookup,ht.isList.typeIs,?_⟩
 refine wpAny_getItem_list_slice ht.isList hs pl pu .none (by simp) ?_ (by rw[EM] <;> lia)
 rw[oa, <- hlen]
 refine ⟨.ref s.heap.objs.size,_,I.laid (t':=s.toks) (o :=.lst (cS xs lo hi)) (λb ob q=>Ey _ q) (EI _) ?_,rfl,q _ (I.hok.fresh (EI _))⟩
 exact ⟨Ff (lE xs lo hi) hz,_,0,(r.drop (HT.sIx xs.length 0 lo)).take (HT.sIx xs.length xs.length hi-HT.sIx xs.length 0 lo),EK _ rfl⟩
def jG:V->Bool
 | .non=>true
 | .bl _=>true
 | .int _=>true
 | .str _=>true
 | _=>false
def eqV:V->V->Bool
 | .non,.non=>true
 | .bl a,.bl b=>a == b
 | .bl a,.int b=>(if a then 1 else 0) == b
 | .int a,.bl b=>a == (if b then 1 else 0)
 | .int a,.int b=>a == b
 | .str a,.str b=>a == b
 | _,_=>false
theorem CG {A:FN}{s:EG}{y x:V}{u v:EB}(ry:RelV y u)(rx:RelV x v)(fy:jG y=true)(fx:jG x=true):Ls A s u v (eqV y x):=by
 cases y with
 | non =>
  cases ry
  cases x with
  | non=>cases rx;exact SeqAt.EqAt.same _
  | bl b=>cases rx;exact SeqAt.EqAt.none_bool b
  | int b=>obtain ⟨t,rfl⟩:=rx;exact SeqAt.EqAt.none_int b t
  | str b=>obtain ⟨t,rfl⟩:=rx;exact SeqAt.EqAt.none_str b t
  | _=>exact absurd (show false=true from fx) EO
 | bl a =>
  cases ry
  cases x with
  | non=>cases rx;exact SeqAt.EqAt.bool_none a
  | bl b=>cases rx;exact SeqAt.EqAt.bool_bool a b
  | int b=>obtain ⟨t,rfl⟩:=rx;exact SeqAt.EqAt.bool_int a b t
  | str b=>obtain ⟨t,rfl⟩:=rx;exact SeqAt.EqAt.bool_str a b t
  | _=>exact absurd (show false=true from fx) EO
 | int a =>
  obtain ⟨t',rfl⟩:=ry
  cases x with
  | non=>cases rx;exact SeqAt.EqAt.int_none a t'
  | bl b=>cases rx;exact SeqAt.EqAt.int_bool a t' b
  | int b=>obtain ⟨t,rfl⟩:=rx;exact Jf a t' b t
  | str b=>obtain ⟨t,rfl⟩:=rx;exact LP a t' b t
  | _=>exact absurd (show false=true from fx) EO
 | str a =>
  obtain ⟨t',rfl⟩:=ry
  cases x with
  | non=>cases rx;exact SeqAt.EqAt.str_none a t'
  | bl b=>cases rx;exact SeqAt.EqAt.str_bool a t' b
  | int b=>obtain ⟨t,rfl⟩:=rx;exact LQ a t' b t
  | str b=>obtain ⟨t,rfl⟩:=rx;exact SeqAt.EqAt.str_str a t' b t
  | _=>exact absurd (show false=true from fx) EO
 | _=>exact absurd (show false=true from fy) EO
def eqU (x:V)(u:EB):Bool:=match u with
 | .none=>eqV .non x
 | .bool b=>eqV (.bl b) x
 | .int i _=>eqV (.int i) x
 | .str z _=>eqV (.str z) x
 | _=>false
theorem yM {x y:V}{u:EB}(r:RelV y u)(f:jG y=true):eqU x u=eqV y x:=by
 cases y with
 | non=>cases r;rfl
 | bl b=>cases r;rfl
 | int i=>obtain ⟨t,rfl⟩:=r;rfl
 | str z=>obtain ⟨t,rfl⟩:=r;rfl
 | _=>exact absurd (show false=true from f) EO
theorem jH {x:V}:∀{xs:List V} {us:List EB},Vals xs us->xs.all jG=true->us.any (eqU x)=xs.any λy=>eqV y x
 | _,_,.nil,_=>rfl
 | y :: xs,u :: us,.cons r t,f=>by
  rw[LW,Fh] at f
  rw[IG,IG,yM r f.1,jH t f.2]
theorem gz {A:FN}{s:EG}{x:V}{v:EB}(rx:RelV x v)(fx:jG x=true):∀{xs:List V} {us:List EB},Vals xs us->xs.all jG=true->∀u∈us,Ls A s u v (eqU x u)
 | _,_,.nil,_=>λu hu=>by cases hu
 | y :: xs,u :: us,.cons r t,f=>λu' hu=>by
  rw[LW,Fh] at f
  rcases EW.mp hu with rfl | hu
  ·rw[yM r f.1];exact CG r rx f.1 fx
  ·exact gz rx fx t f.2 u' hu
def inV (x:V)(xs:List V):Bool:=xs.any λy=>eqV y x
def rIn (K:Ez)(neg:Bool):R2:=λx y H Q=>∃p xs,y = .ref p/\(SqL K H p xs\/SqT K H p xs)/\jG x=true/\xs.all jG=true/\Q (.bl (if neg then !inV x xs else inV x xs)) H
theorem ij:OpR X (Gw .In) (rIn X.K false):=by
 intro pins s σ H x y v u Q I rx ry h
 obtain ⟨p,xs,rfl,hq,fx,fs,q⟩:=h
 cases ry
 rcases hq with hq | hq
 ·obtain ⟨its,r,pl,hz⟩:=I.list hq
  refine SeqAt.in_listAt (eqU x) pl.isList (λw hw=>gz rx fx r fs w (by simpa using hw)) ⟨.bl _,H,I,rfl,?_⟩
  rw[show its.toArray.any (eqU x)=its.any (eqU x) by simp,jH r fs]
  exact q
 ·obtain ⟨its,r,pl,hz⟩:=I.tuple hq
  refine SeqAt.in_tupleAt (eqU x) pl (λw hw=>gz rx fx r fs w (by simpa using hw)) ⟨.bl _,H,I,rfl,?_⟩
  rw[show its.toArray.any (eqU x)=its.any (eqU x) by simp,jH r fs]
  exact q
theorem pU:OpR X (Gw .NotIn) (rIn X.K true):=by
 intro pins s σ H x y v u Q I rx ry h
 obtain ⟨p,xs,rfl,hq,fx,fs,q⟩:=h
 cases ry
 rcases hq with hq | hq
 ·obtain ⟨its,r,pl,hz⟩:=I.list hq
  refine SeqAt.notIn_listAt (eqU x) pl.isList (λw hw=>gz rx fx r fs w (by simpa using hw)) ⟨.bl _,H,I,rfl,?_⟩
  rw[show its.toArray.any (eqU x)=its.any (eqU x) by simp,jH r fs]
  exact q
 ·obtain ⟨its,r,pl,hz⟩:=I.tuple hq
  refine SeqAt.notIn_tupleAt (eqU x) pl (λw hw=>gz rx fx r fs w (by simpa using hw)) ⟨.bl _,H,I,rfl,?_⟩
  rw[show its.toArray.any (eqU x)=its.any (eqU x) by simp,jH r fs]
  exact q
theorem aO:bD X (.builtin "len") (λxs H Q=>∃p ys,xs=[.ref p]/\(SqL X.K H p ys\/SqT X.K H p ys)/\Q (.int ys.length) H):=by
 intro pins s σ H xs us Q I r h
 obtain ⟨p,ys,rfl,hq,q⟩:=h
 obtain ⟨u,rfl,rx⟩:=vals1 r
 cases rx
 have hn:=kq
 rcases hq with hq | hq
 ·obtain ⟨its,r',pl,hz⟩:=I.list hq
  have hlen:=r'.length
  exact Calls.call_len_list pl.isList (by simp only[EM] <;> lia) ⟨.int ys.length,H,I.tok _,⟨s.toks+1,by rw[EM,hlen]⟩,q⟩
 ·obtain ⟨its,r',pl,hz⟩:=I.tuple hq
  have hlen:=r'.length
  exact M7 pl (by simp only[EM] <;> lia) ⟨.int ys.length,H,I.tok _,⟨s.toks+1,by rw[EM,hlen]⟩,q⟩
theorem pW:bD X (.type "list") (λxs H Q=>∃p ys,xs=[.ref p]/\(SqL X.K H p ys\/SqT X.K H p ys)/\∀l,H l=none->Q (.ref l) (upd H l (.lst ys))):=by
 intro pins s σ H xs us Q I r h
 obtain ⟨p,ys,rfl,hq,q⟩:=h
 obtain ⟨u,rfl,rx⟩:=vals1 r
 cases rx
 have fin:∀(its:List EB),Vals ys its->ys.length<=ES->∀(h':Heap) (c':Nat),(∀b o',s.heap.get? b=some o'->h'.get? b=some o') →
   h'.get? s.heap.objs.size=some { cls :=.type "list",dict:=none,data :=.seq its.toArray c',slots := #[] }->EP X pins σ Q (.ref s.heap.objs.size) { s with heap:=h' }:=λits r' hz h' c' kp e =>
  ⟨.ref s.heap.objs.size,_,I.laid (t':=s.toks) kp (EI _) (show ba X.prog X.w _ h' _ (.lst ys) from ⟨hz,its,c',r',e⟩),rfl,q _ (I.hok.fresh (EI _))⟩
 rcases hq with hq | hq
 ·obtain ⟨its,r',pl,hz⟩:=I.list hq
  have hlen:=r'.length
  obtain ⟨o,ho,hc,n,hd⟩:=pl.isList
  exact call_list_seq p (.inl rfl) ho hc hd (λh' c' kp e=>fin its r' hz h' c' kp e) (by simp only[EM] <;> lia)
 ·obtain ⟨its,r',pl,hz⟩:=I.tuple hq
  have hlen:=r'.length
  obtain ⟨o,ho,hc,n,hd⟩:=pl
  exact call_list_seq p (.inr rfl) ho hc hd (λh' c' kp e=>fin its r' hz h' c' kp e) (by simp only[EM] <;> lia)
theorem aZ:bD X (.type "tuple") (λxs H Q=>∃p ys,xs=[.ref p]/\((SqL X.K H p ys/\∀l,H l=none->Q (.ref l) (upd H l (.tup ys)))\/(SqT X.K H p ys/\Q (.ref p) H))):=by
 intro pins s σ H xs us Q I r h
 obtain ⟨p,ys,rfl,h⟩:=h
 obtain ⟨u,rfl,rx⟩:=vals1 r
 cases rx
 rcases h with ⟨hq,q⟩ | ⟨hq,q⟩
 ·obtain ⟨its,r',pl,hz⟩:=I.list hq
  have hlen:=r'.length
  refine call_tuple_list pl.isList (λh' kp =>?_) (by simp only[EM] <;> lia)
  have I1:Inv X pins σ H { s with heap:=h' }:=I.kept (t':=s.toks) kp
  have I2:Inv X pins σ (upd H h'.objs.size (.tup ys)) { s with heap:=h'.push { cls :=.type "tuple",data :=.seq its.toArray } } :=
   I1.laid (t':=s.toks) (λb o e=>Ey _ e) (EI _) (show ba X.prog X.w _ _ _ (.tup ys) from ⟨hz,its,r',eM.new _ _⟩)
  exact ⟨.ref h'.objs.size,_,I2,rfl,q _ (I1.hok.fresh (EI _))⟩
 ·obtain ⟨its,r',pl,hz⟩:=I.tuple hq
  exact call_tuple_same pl ⟨.ref p,H,I,rfl,q⟩
def tyV (K:Ez)(T:String)(x:V)(H:Hp):Prop:=match x with
 | .str _=>T = "str"
 | .int _=>T = "int"
 | .ref p=>(T = "list" /\ ∃xs,SqL K H p xs)\/(T = "tuple" /\ ∃o,K.lookup p=some o/\o.cls = .type "tuple" /\ o.dict=none) ∨
   (T = "dict" /\ ((∃kvs,H p=some (.dK kvs))\/∃kvs,H p=some (.dT kvs)))\/(T = "set" /\ ∃S n,H p=some (.set S n))
 | _=>False
theorem CH {pins:List (Addr×Obj)}{σ:St}{H:Hp}{s:EG}{T:String}{x:V}{v:EB}(I:Inv X pins σ H s)(r:RelV x v)(ty:tyV X.K T x H) :
  s.TypeIs v T/\∀a,v = .ref a->∃ob,s.heap.get? a=some ob/\ob.dict=none:=by
 cases x with
 | str z =>
  obtain ⟨t,rfl⟩:=r
  cases (show T = "str" from ty)
  exact ⟨typeIs_str s z t,λ_ e=>nomatch e⟩
 | int i =>
  obtain ⟨t,rfl⟩:=r
  cases (show T = "int" from ty)
  exact ⟨Lq s i t,λ_ e=>nomatch e⟩
 | ref p =>
  cases r
  rcases ty with ⟨rfl,xs,hq⟩ | ⟨rfl,o,hk,hc,hd⟩ | ⟨rfl,hk⟩ | ⟨rfl,S,n,hk⟩
  ·obtain ⟨its,_,pl,_⟩:=I.list hq
   refine ⟨pl.isList.typeIs,λa e =>?_⟩
   cases e
   obtain ⟨o,n,e,c,hd,_⟩:=pl
   exact ⟨o,e,hd⟩
  ·refine ⟨⟨o,I.kIn p o hk,hc⟩,λa e =>?_⟩
   cases e
   exact ⟨o,I.kIn _ o hk,hd⟩
  ·have z:∃o,s.heap.get? p=some o/\o.ExactDict:=by
    rcases hk with ⟨kvs,hk⟩ | ⟨kvs,hk⟩
    ·obtain ⟨_,_,_,_,o,_,_,e,ex,_⟩:=I.hok p _ hk
     exact ⟨o,e,ex⟩
    ·obtain ⟨_,_,_,_,o,_,_,e,ex,_⟩:=I.hok p _ hk
     exact ⟨o,e,ex⟩
   obtain ⟨o,e,ex⟩:=z
   refine ⟨⟨o,e,ex.1⟩,λa e2 =>?_⟩
   cases e2
   exact ⟨o,e,ex.2.1⟩
  ·obtain ⟨o,_,_,_,e,ex,_⟩:=I.hok p _ hk
   refine ⟨⟨o,e,ex.1⟩,λa e2 =>?_⟩
   cases e2
   exact ⟨o,e,ex.2.1⟩
 | _=>exact False.elim ty
def tBM (K:Ez)(T:String)(r:V->List V->Hp->VK->Prop)(to:TE)(t:TA):TE:=λσ H Q=>to σ H λx H1=>tyV K T x H1/\t σ H1 λxs H2=>r x xs H2 Q
variable  {o e:Expr}{es:List Expr}{to:TE}{t:TA}{name:Str}{apos cpos:Pos}{T id:String}{r:V->List V->Hp->VK->Prop}
theorem gA (pa:PlainAttrs T)(slot:Slot T name id)(hty:typeOf (.builtin id)=pure (.type "method_descriptor"))(hm:MtR X id r)(ho:PE X o to)(ha:PA X (e :: es) t)
  (hbase:attributeBase o name X.env (eval o X.env)=eval o X.env:=by rfl)
  (hfew:((Jn cpos (FT (e :: es) X.env)).all (λx => !x.1) && (backToKw cpos (keywordEach [] X.env)).all (λx=>x.1.isSome)
   && decide ((e :: es).length+([]:List Keyword).length+(if ([]:List Keyword).isEmpty then 0 else 1)<30))=true:=by rfl)
  (hline:(apos.endLine == cpos.line)=true:=by rfl) (hs:FT (e :: es) X.env=(false,eval e X.env) :: FT es X.env:=by rfl) (hplain:(Jn cpos (FT es X.env)).any (·.1)=false:=by rfl) :
  PE X (.Call (.Attribute o name apos) (e :: es) [] cpos) (tBM X.K T r to t):=by
 intro pins s σ H Q I h
 refine K4 hbase hfew hline rfl (thn (ho pins s σ H _ I h) λv s1 ⟨x,H1,I1,r1,ty,q1⟩ =>?_)
 obtain ⟨h1,h2⟩:=CH I1 r1 ty
 refine ⟨T,id,pa,slot,hty,h1,h2,?_⟩
 have hA:=ha cpos pins s1 σ H1 _ I1 q1
 rw[hs] at hA ⊢
 refine KZ (by show (false || (Jn cpos (FT es X.env)).any (·.1))=false;rw[hplain] <;> rfl) (Lu ?_)
 exact thn hA λus s2 ⟨vs,H2,I2,r2,q2⟩=>hm pins s2 σ H2 x vs v us Q I2 r1 r2 q2
end
def MtM (X:Cx)(id:String)(r:V->List V->Hp->VK->Prop):Prop :=
 ∀(pins:List (Addr×Obj)) (s:EG) (σ:St) (H:Hp) (x:V) (xs:List V) (v:EB) (us:List EB) (Q:VK),Inv X pins σ H s->RelV x v->Vals xs us->r x xs H Q →
  E4 (Fq X.prog X.w) X.A (call (.builtin id) (v :: us)) (EP X pins σ Q) X.xe s
theorem Vals.one:∀{x:V} {us:List EB},Vals [x] us->∃u,us=[u]/\RelV x u
 | _,_,.cons r .nil=>⟨_,rfl,r⟩
theorem Vals.rep {xs:List V}{us:List EB}(h:Vals xs us):∀k:Nat,Vals (Fn k xs).flatten (Fn k us).flatten
 | 0 =>.nil
 | k+1=>by
  rw[GD,GD,HY,HY]
  exact Vals.append h (Vals.rep h k)
theorem foldl_rep (its:List EB):∀(k:Nat) (acc:List EB),
  List.foldl (λx1 x2=>x1++x2) acc.toArray (Fn k its.toArray)=(acc++(Fn k its).flatten).toArray
 | 0,acc=>by simp
 | k+1,acc=>by
  have e:acc.toArray++its.toArray=(acc++its).toArray:=by simp
  have e2:(acc++its)++(Fn k its).flatten=acc++(Fn (k+1) its).flatten:=by
   rw[GD,HY,HB]
  rw[<- e2, <- foldl_rep its k (acc++its), <- e,GD,MV]
section
variable  {X:Cx}{pins:List (Addr×Obj)}{σ:St}{H:Hp}{s:EG}{l b:Addr}{xs ys zs:List V}
theorem Inv.DN {its its':List EB}{n:Nat}{f:Array EB->Array EB}{t':Nat}(I:Inv X pins σ H s)(hH:H l=some (.lst xs))
  (e:s.heap.get? l=some { cls :=.type "list",data :=.seq its.toArray n }) (hf:f its.toArray=its'.toArray) (hv:Vals ys its') (hz:ys.length<=ES) :
  Inv X pins σ (upd H l (.lst ys)) { s with heap:=s.heap.update l (He f),toks:=t' }:=by
 have q:=PySem.IsL.update e f
 rw[hf] at q
 refine I.write (x:=l) (e:=l) (by rw[hH];exact trivial) (.inl rfl) (λb' u hb hu=>(Fd s.heap (He f) (Gn hb)).trans hu) ⟨_,q⟩ ?_
 exact ⟨hz,its',_,hv,q⟩
theorem Inv.DO {its:List EB}{t':Nat}(I:Inv X pins σ H s)(hv:Vals ys its)(hz:ys.length<=ES) :
  Inv X pins σ (upd H s.heap.objs.size (.lst ys)) { s with heap:=s.heap.push { cls :=.type "list",data :=.seq its.toArray },toks:=t' } :=
 I.laid (λ_ _ q=>Ey _ q) (EI _) ⟨hz,its,0,hv,EK _ rfl⟩
theorem Inv.fresh (I:Inv X pins σ H s):H s.heap.objs.size=none:=I.hok.fresh (EI _)
theorem Inv.AW (I:Inv X pins σ H s)(hH:H l=some (.lst xs)):xs.length<=ES/\∃(its:List EB) (n:Nat),Vals xs its/\xs.length=its.length/\s.heap.get? l=some { cls :=.type "list",data :=.seq its.toArray n }:=by
 obtain ⟨z,its,n,r,e⟩:=I.hok l _ hH
 exact ⟨z,its,n,r,r.length,e⟩
theorem mL {n:Nat}(h:n<=ES):Builtin.List.listTooLong n=false:=by
 unfold Builtin.List.listTooLong
 exact decide_eq_false (by lia)
end
section
variable  {X:Cx}
def AX:V->List V->Hp->VK->Prop:=λx vs H Q=>∃l xs y,x = .ref l/\vs=[y]/\H l=some (.lst xs)/\xs.length<ES/\Q .non (upd H l (.lst (xs++[y])))
theorem cg:MtM X "list.append" AX:=by
 intro pins s σ H x vs v us Q I rx rv h
 obtain ⟨l,xs,y,rfl,rfl,hH,hz,q⟩:=h
 cases rx
 obtain ⟨u,rfl,ru⟩:=rv.one
 obtain ⟨z,its,n,r,hl,e⟩:=I.AW hH
 refine JP F.slot_list_append ⟨_,e,rfl⟩ F.entry_list_append (F.args_list_append_2 _ _) (PySem.list_append l its.toArray n u (by rw[EM];lia)) ⟨e,?_⟩
 refine ⟨.non,_,I.DN (its':=its++[u]) hH e (by simp) (r.append (.cons ru .nil)) ?_,rfl,q⟩
 rw[EE,Gh]
 lia
def AY:V->List V->Hp->VK->Prop:=λx vs H Q=>∃l b xs zs,x = .ref l/\vs=[.ref b]/\H l=some (.lst xs)/\H b=some (.lst zs)/\xs.length+zs.length<=ES/\Q .non (upd H l (.lst (xs++zs)))
theorem wX:MtM X "list.extend" AY:=by
 intro pins s σ H x vs v us Q I rx rv h
 obtain ⟨l,b,xs,zs,rfl,rfl,hH,hB,hz,q⟩:=h
 cases rx
 obtain ⟨u,rfl,ru⟩:=rv.one
 cases ru
 obtain ⟨z,its,n,r,hl,e⟩:=I.AW hH
 obtain ⟨z2,its2,n2,r2,hl2,e2⟩:=I.AW hB
 have hsz:its.toArray.size+its2.toArray.size<=ES:=by rw[EM,EM];lia
 have hlong:¬ (!its.toArray.isEmpty && Builtin.List.listTooLong (its.toArray.size+its2.toArray.size))=true:=by
  rw[mL hsz,HS]
  exact EO
 refine JP F.slot_list_extend ⟨_,e,rfl⟩ F.entry_list_extend (F.args_list_extend_2 _ _)
  (AutoSeq1.list_extend_list_list_0 l its.toArray n b its2.toArray n2 hlong (by rw[EM];lia) (by lia)) ⟨e,e2,?_⟩
 refine ⟨.non,_,I.DN (its':=its++its2) hH e (by simp) (r.append r2) ?_,rfl,q⟩
 rw[EE]
 lia
def rRep:R2:=λx y H Q=>∃l k xs,x = .ref l/\y = .int k/\H l=some (.lst xs) /\ -(2 ^ 63)<=k/\k<2 ^ 63/\xs.length*k.toNat<=ES ∧
 ∀p,H p=none->Q (.ref p) (upd H p (.lst (Fn k.toNat xs).flatten))
theorem len_rep {α:Type}(xs:List α)(k:Nat):(Fn k xs).flatten.length=k*xs.length:=by
 induction k with
 | zero=>simp
 | succ k ih=>rw[GD,HY,EE,ih,Nat.succ_mul,Nat.add_comm]
theorem tW:OpR X (binaryOp .Mult) rRep:=by
 intro pins s σ H x y v u Q I rx ry h
 obtain ⟨l,k,xs,rfl,rfl,hH,h1,h2,hz,q⟩:=h
 cases rx
 obtain ⟨t,rfl⟩:=ry
 obtain ⟨z,its,n,r,hl,e⟩:=I.AW hH
 have hlen:its.toArray.size*k.toNat<=ES:=by rw[EM, <- hl];exact hz
 have hcap:¬ its.toArray.size*k.toNat>(2 ^ 63-1)/8:=by
  have:(ES:Nat)<=(2 ^ 63-1)/8:=by decide
  lia
 have hfit:¬ (!Builtin.List.listFitsIndex k)=true:=by
  rw[fitsIndex_both h1 h2]
  exact EO
 have hlong:¬ Builtin.List.listTooLong (its.toArray.size*k.toNat)=true:=by
  rw[mL hlen]
  exact EO
 have hnew:List.foldl (λx1 x2=>x1++x2) #[] (Fn (if its.toArray.isEmpty=true then 0 else k.toNat) its.toArray)=(Fn k.toNat its).flatten.toArray:=by
  have f0:∀m:Nat,List.foldl (λx1 x2=>x1++x2) #[] (Fn m its.toArray)=(Fn m its).flatten.toArray:=λm=>by
   have:=foldl_rep its m []
   rw[MW] at this
   exact this
  rw[f0]
  cases its with
  | nil=>simp
  | cons a r'=>rw[if_neg (by simp)]
 refine wpAny_binaryOp_repeat_ref (T := "list") (U := "int") (by decide) ⟨_,e,rfl⟩ (λs'=>Lq s' k t) noFill_list_mul F.fills_int_mul MX repeat_list F.slot_int_index.lookup
  (JP MX (Lq s k t) F.entry_int_rmul (F.args_int_rmul_2 _ _) (int___rmul___int_list k t l its.toArray n)
   ⟨e,rfl,⟨_,e,rfl⟩,JP F.slot_list_mul ⟨_,e,rfl⟩ F.entry_list_mul (F.args_list_mul_2 _ _) (AutoListH.list___mul___list_int_3 l its.toArray n k t hfit hcap hlong) ⟨e,?_⟩⟩)
 rw[hnew]
 exact ⟨.ref _,_,I.DO (t':=s.toks) (r.rep k.toNat) (by rw[len_rep,Nat.mul_comm];exact hz),rfl,q _ I.fresh⟩
end
section
variable  {prog:EV}{w:Fm}{A:FN}{E:EB->EG->Prop}{s:EG}
end
section
variable  {X:Cx}
end
end L2
namespace Att
open PySem PySem.W PySem.Calls PyProof.Rows
theorem lO {P:Params}{h:Heap}:∀(ns:List Int) (vs:List EB),WellAll P h vs (ns.map WData.int)->Hj vs ns:=by
 intro ns
 induction ns with
 | nil =>
  intro vs w
  rw[Jx] at w
  cases w
  exact .nil
 | cons n ns ih =>
  intro vs w
  rw[EZ] at w
  cases w with
  | cons a b =>
   cases a
   exact .cons _ _ (ih _ b)
theorem wY {l:OpenLaw}{n:Nat}(hn:l.most=some n){P:Params}{h:Heap}{args:List WData}{vals:List EB}
  (hpre:l.row.toRowW.claim.pre args=true) (hwl:WellAll P h vals args) :
  ∃a vs ns,vals=[E2 a]/\args=[WData.list (ns.map WData.int)]/\h.get? a=some { cls :=.type "list",data :=.seq vs.toArray }/\Hj vs ns/\ns.length<=n:=by
 have hsh:WShape.hasAll [] args [.list .int]=true:=(pre_splitW hpre).1
 have hc:l.pre.holds [] { args:=args }=true:=(pre_splitW hpre).2
 obtain ⟨d,r,rfl,h1,h2⟩:=hasAllW_cons hsh
 obtain rfl:=hasAllW_nil h2
 obtain ⟨xs,rfl,h3⟩:=hasW_list h1
 obtain ⟨ns,rfl⟩:=items_int h3
 have hlen:ns.length<=n:=by
  unfold OpenLaw.pre at hc
  have h4:(WTm.not (.lt (.lit (.int (n:Int))) (.len (.arg 0)))).holds [] { args:=[.list (ns.map .int)] }=true:=by
   have h4:=(holds_andW hc).1
   rw[hn] at h4
   exact h4
  have h5:=condW_of h4 (w_not (w_lt w_lit (w_len_list (w_arg rfl))))
  rw[Ex] at h5
  refine JF λq =>?_
  have q':(n:Int)<((ns.length:Nat):Int):=by omega
  first
   | (rw[decide_eq_true q'] at h5;exact absurd h5 (by decide))
   | (simp at h5;omega)
 cases hwl with
 | cons w1 w2 =>
  cases w2
  cases w1 with
  | list ho hall=>exact ⟨_,_,ns,rfl,rfl,ho,lO ns _ hall,hlen⟩
theorem wZ (l:OpenLaw)(args:List WData):l.row.toRowW.claim.post args (.bool true) args=true :=
 postW_of (r:=l.row.toRowW) (X:=(true == true))
  (show WShape.has [] (.bool true) .bool=true by first | rfl | decide | simp[WShape.has,WShape.arms,WShape.armsAll])
  (show (WTm.eq .res (.lit (.bool true))).value [] { args:=args,res:=some (.bool true),after:=args }=some (.bool (true == true)) from w_eq_bool (w_res rfl) w_lit) rfl
theorem rz {l:OpenLaw}{n:Nat}{q:EV}{loose:List Str}{XP:(Str->Option EB)->Heap->Prop}{YP:Fm->Heap->Prop}{d:DefRec}
  (hn:l.most=some n) (hdf:d.params.defaults=[])
  (call:∀(w:Fm) (s₀ s₁:EG) (mg mb:Str->Option EB) (fa:Addr) (o:Obj) (pm cd doc:EB) (a:Addr) (vs:List EB) (ns:List Int),
   Ground q loose [] XP w s₀ mg mb s₁.heap->YP w s₁.heap →
   s₁.heap.get? fa=some o->o.data = .func (docDef d.name d.params d.body d.scope pm cd doc)->s₁.heap.CodeRec cd d.name->mg d.name=some (.ref fa) →
   s₁.heap.get? a=some { cls :=.type "list",data :=.seq vs.toArray }->Hj vs ns->ns.length<=n->s₁.gens = #[] →
   IW (Fq l.prog w) callerA (.call (.ref fa) ⟨[.ref a],[]⟩) (λr s'=>r = .ok (.ret (.bool true))/\OldK s₁.heap s'.heap/\s'.os=s₁.os/\AllBare s'.gens) s₁) :
  WalkO q loose XP YP l.row.toRowW d [] (λf vs=>PySem.call f vs):=by
 intro w s₀ s₁ mg mb G Y fa o pm cd doc dV kV ho hd hcd hD hmg hg args vals as hpre hlay hrd hwl hlo
 obtain rfl:dV = .none:=Dflts.none hD hdf
 obtain rfl:kV = .none:=Dflts.noKw hD
 obtain ⟨a,vs,ns,rfl,rfl,hobj,hints,hlen⟩:=wY hn hpre hwl
 refine enter_call (Jc (call w s₀ s₁ mg mb fa o pm cd doc a vs ns G Y ho (fd_plain hd) hcd hmg hobj hints hlen hg) λr s' hq =>?_)
 obtain ⟨rfl,h2,h3,h4⟩:=hq
 exact ⟨.inl ⟨.bool true,.bool true,[],rfl,λ_=>rfl,.bool true,wZ l _,λ_=>⟨List.Pairwise.nil,λ_ hm=>(nomatch hm)⟩⟩,h2,h3,h4⟩
section
variable  {prog:EV}{w:Fm}{A:FN}{E:EB->EG->Prop}{s:EG}{K:Frag}
def ledger (h:Heap)(L d:Addr):List (Addr×Obj):=(FP h.objs.size).filterMap λa=>if a=L\/a=d then none else (h.get? a).map λo=>(a,o)
end
end Att
namespace L2
open PySem PySem.Spec PyProof.Rows
theorem kx:∀{vs:List EB} {ns:List Int},Hj vs ns->Vals (ns.map V.int) vs
 | _,_,.nil =>.nil
 | _,_,.cons n t h =>.cons ⟨t,rfl⟩ (kx h)
def CI (H:Hp):Prop:=∀b,H b=none\/∃o xs,H b=some (.frz o (.lst xs))
theorem yN {P:EV}{w:Fm}{K:Ez}{mg mb:Str->Option EB}{CX:CXT}{k:Nat}{fa a:Addr}{fd:Fi}{x:Str}{sp:Sp}{s₁:EG}{vs:List EB}{ns:List Int}
  (KX:K.In s₁.heap) (hns:s₁.heap.Ns Fx mg) (hb:s₁.heap.Ns builtinsNs mb) (hbb:∀x:Str,x ≠ "__name__" -> mb x=F1 x) (hlim:s₁.heap.NoLimit) (hg:s₁.gens = #[])
  (ha:s₁.heap.get? a=some { cls :=.type "list",data :=.seq vs.toArray }) (hi:Hj vs ns) (hl:ns.length<=ES) (hr:dB k callerA)
  (F:∀base:Heap,K.In base->base.Ns Fx mg->aV P w K mg base CX k fa fd [x] sp) (hbind:∀(s:EG) (u:EB),BindsTo s fd ⟨[u],[]⟩ [(x,u)])
  (hsp:∀H:Hp,CI H->SqL K H a (ns.map V.int)->sp [.ref a] H (λv _=>v = .bl true) λ_ _ _=>False)
  (hCX:∀H e s',CX [] H s₁ (λ_ _ _=>False) e s'->False) :
  IW (Fq P w) callerA (.call (.ref fa) ⟨[.ref a],[]⟩) (λr s'=>r = .ok (.ret (.bool true))/\OldK s₁.heap s'.heap/\s'.os=s₁.os/\AllBare s'.gens) s₁:=by
 have rv:=kx hi
 have lenV:=hi.length
 have core:∀H:Hp,CI H->SqL K H a (ns.map V.int)->HOk P w H s₁.heap->(∀b,H b≠none->b=a)->(H a≠none->K.lookup a=none) →
   IW (Fq P w) callerA (.call (.ref fa) ⟨[.ref a],[]⟩) (λr s'=>r = .ok (.ret (.bool true))/\OldK s₁.heap s'.heap/\s'.os=s₁.os/\AllBare s'.gens) s₁:=by
  intro H hO hS hok hA hK
  have base_of:∀{b:Addr} {o:Obj},s₁.heap.get? b=some o->H b=none->(pN s₁.heap H).get? b=some o:=λe n=>yr e n
  have noA:∀{b:Addr} {o:Obj} {es:Array DictEntry} {ep:Nat},s₁.heap.get? b=some o->o.data = .dict es ep->H b=none:=λ{b o es ep} e d=>by
   cases q:H b with
   | none=>rfl
   | some u =>
    have e':b=a:=hA b (by rw[q];simp)
    subst e'
    rw[ha] at e;cases e
    have d':Data.seq vs.toArray _=Data.dict es ep:=d
    cases d'
  have nsK:∀{b:Addr} {m:Str->Option EB},s₁.heap.Ns b m->(pN s₁.heap H).Ns b m:=λ{b m} ⟨o,es,ep,e,d,r⟩=>⟨o,es,ep,base_of e (noA e d),d,r⟩
  have hKb:K.In (pN s₁.heap H):=λb o e=>base_of (KX b o e) (by
   cases q:H b with
   | none=>rfl
   | some u =>
    have e':b=a:=hA b (by rw[q];simp)
    subst e'
    rw[hK (by rw[q];simp)] at e;cases e)
  have hM:Mod K mg (pN s₁.heap H):=⟨hKb,nsK hns,⟨mb,nsK hb,hbb⟩,let ⟨mc,h1,h2⟩:=hlim;⟨mc,nsK h1,h2⟩⟩
  have e0:AO P w K mg (pN s₁.heap H) callerA [] s₁ H:=⟨rfl,hM,λb o e=>AK e,Nat.le_of_eq (wO _ _),trivial,λb hb=>absurd (show b∈([]:List Addr) from hb) (by simp),hok,.of_eq hg⟩
  refine Jc ((F _ hKb (nsK hns)).run callerA [] s₁ H ⟨[.ref a],[]⟩ [.ref a] [.ref a] _ _ hr e0 (hbind s₁ (.ref a)) (.cons rfl .nil) (hsp H hO hS)) λr s' h =>?_
  cases r with
  | error e=>exact (hCX H e s' h).elim
  | ok fl =>
   cases fl with
   | next=>exact False.elim h
   | brk=>exact False.elim h
   | cont=>exact False.elim h
   | ret u =>
    obtain ⟨v,H',os,bare,un,hok',r',q⟩:=h
    have q':v = .bl true:=q
    subst q'
    obtain rfl:u=Value.bool true:=r'
    refine ⟨rfl,OldK.of_keep λb o e =>?_,os,bare⟩
    cases q:H b with
    | none=>exact un.keep b o e q (by intro z;exact absurd (show b∈([]:List Addr) from z) (by simp)) (by simp)
    | some u =>
     rcases hO b with z | ⟨ob,xs,z⟩
     ·rw[q] at z;cases z
     ·have z2:=un.frzs b ob _ z
      obtain ⟨e1,_⟩:=hok b _ z
      obtain ⟨e2,_⟩:=hok' b _ z2
      rw[e] at e1;cases e1
      exact e2
 cases hk:K.lookup a with
 | some o =>
  have e:=KX a o hk
  rw[ha] at e
  cases e
  refine core (λ_=>none) (λ_ =>.inl rfl) (.inr ⟨_,vs.toArray,_,hk,rfl,rfl,rfl,by rw[EM,lenV];exact hl,by simpa using rv⟩) (λb u z=>by have z':(none:Option HO)=some u:=z;cases z') (λb z=>absurd rfl z) λz=>absurd rfl z
 | none =>
  refine core (λb=>if b=a then some (.frz { cls :=.type "list",data :=.seq vs.toArray } (.lst (ns.map V.int))) else none) (λb =>?_) (.inl (.inr ⟨{ cls :=.type "list",data :=.seq vs.toArray },if_pos rfl⟩)) (λb u z =>?_) (λb z =>?_) λ_=>hk
  ·by_cases hb:b=a
   ·exact .inr ⟨_,_,if_pos hb⟩
   ·exact .inl (if_neg hb)
  ·by_cases hb:b=a
   ·have z':=(if_pos hb).symm.trans z
    cases z'
    subst hb
    exact ⟨ha,by rw[Ex];exact hl,vs,_,rv,ha⟩
   ·have z':=(if_neg hb).symm.trans z
    cases z'
  ·by_cases hb:b=a
   ·exact hb
   ·exact absurd (if_neg hb) z
theorem AZ {l:PySem.W.OpenLaw}{n k:Nat}{q:EV}{loose:List Str}{XP:(Str->Option EB)->Heap->Prop}{YP:Fm->Heap->Prop}{d:DefRec}{K:Params->Ez}{CX:Fm->CXT}{sp:Fm->Sp}{x:Str}
  (hn:l.most=some n) (hn2:n<=ES) (hdf:d.params.defaults=[]) (hr:dB k callerA)
  (hY:∀(w:Fm) (h:Heap),YP w h->(K w.params).In h)
  (F:∀(w:Fm) (mg:Str->Option EB) (fa:Addr) (h:Heap),(K w.params).In h->h.Ns Fx mg->mg d.name=some (.ref fa) →
   ∃fd:Fi,(∀(s:EG) (u:EB),BindsTo s fd ⟨[u],[]⟩ [(x,u)]) ∧
    ∀base:Heap,(K w.params).In base->base.Ns Fx mg->aV l.prog w (K w.params) mg base (CX w) k fa fd [x] (sp w))
  (hsp:∀(w:Fm) (H:Hp) (a:Addr) (ns:List Int),ns.length<=n->CI H->SqL (K w.params) H a (ns.map V.int)->sp w [.ref a] H (λv _=>v = .bl true) λ_ _ _=>False)
  (hCX:∀(w:Fm) (H:Hp) (s:EG) (e:EB) (s':EG),CX w [] H s (λ_ _ _=>False) e s'->False) :
  PySem.W.WalkO q loose XP YP l.row.toRowW d [] (λf vs=>PySem.call f vs):=by
 refine Att.rz hn hdf λw s₀ s₁ mg mb fa o pm cd doc a vs ns G Y ho hd hcd hmg hobj hints hlen hg =>?_
 have KX:=hY w _ Y
 obtain ⟨fd,hb,hF⟩:=F w mg fa _ KX G.T.g hmg
 exact yN KX G.T.g G.T.b G.T.builtins G.T.nolimit hg hobj hints (Ff hlen hn2) hr hF hb (λH hO hS=>hsp w H a ns hlen hO hS) λH e s'=>hCX w H s₁ e s'
def bP (s:Stmt):Arguments:=match s with
 | .FunctionDef _ a _ _ _ _ _ _ _ _=>a
 | _=>{ posonlyargs:=[],args:=[],vararg:=none,kwonlyargs:=[],kw_defaults:=[],kwarg:=none,defaults:=[] }
def bA (s:Stmt):List Stmt:=match s with
 | .FunctionDef _ _ b _ _ _ _ _ _ _=>b
 | _=>[]
def au (s:Stmt):Scope:=match s with
 | .FunctionDef _ _ _ _ _ _ sc _ _ _=>sc
 | _=>{ kind :=.function,names:=[],isGenerator:=false,isCoroutine:=false }
abbrev CX0:CXT:=λ_ _ _ _ _ _=>False
abbrev E0:XK:=λ_ _ _=>False
theorem B4 {X:Cx}:Passes CX0 X E0:=λ_ _ _ _ _ _ _ h=>h.elim
structure Fun (K:Ez)(x qual:Str)(st:Stmt)(f:Addr)(fd:Fi):Prop where
 ex:∃(oc:EB) (od:Option Addr) (kV doc pm:EB) (an:Option Addr) (cdv ct:EB) (osl:Array (Option EB)),
  fd=PySem.W.fnOf x qual (bP st) (bA st) (au st) .none kV doc pm an cdv ct/\K.lookup f=some ⟨oc,od,.func fd,osl⟩/\PySem.W.codeIn K cdv qual=true
 kp:PySem.W.keepIn K (.ref f)=true
section
variable  {P:EV}{w:Fm}{K:Ez}{mg:Str->Option EB}{base:Heap}
theorem Fun.ok {x qual:Str}{st:Stmt}{f:Addr}{fd:Fi}{N ps:List Str}{k:Nat}{sp:Sp}(F:Fun K x qual st f fd)(S:aG N ps (au st))(len:∀vs H Q E,sp vs H Q E->vs.length=ps.length)
  (hbody:∀(cdv:EB) (A:FN) (outer:List Env) (s:EG) (H:Hp) (vs:List V) (Q:VK) (E:XK),dB k (A.deeper (envOfC qual (au st) s.heap.objs.size f cdv))->sp vs H Q E →
   ∃t,PSs (ku CX0 P w K mg base N qual (au st) f cdv A outer s H E).nox (bA st) t/\t { nx:=λ_ H'=>Q .non H',rt:=Q } (start N vs) H):aV P w K mg base CX0 (k+1) f fd ps sp:=by
 obtain ⟨oc,od,kV,doc,pm,an,cdv,ct,osl,rfl,lk,hcd⟩:=F.ex
 refine B3 lk hcd S len λA outer s H vs Q E hr hsp =>?_
 obtain ⟨t,h,q⟩:=hbody cdv A outer s H vs Q E hr hsp
 exact ⟨t,h.nox,q⟩
theorem Fun.binds {x qual:Str}{st:Stmt}{f:Addr}{fd:Fi}{ps:List Str}(F:Fun K x qual st f fd)
  (h:∀(kV doc pm:EB) (an:Option Addr) (cdv ct:EB) (us:List EB),us.length=ps.length->bindArgs (PySem.W.fnOf x qual (bP st) (bA st) (au st) .none kV doc pm an cdv ct) ⟨us,[]⟩=pure (ps.zip us)):Binds K fd ps []:=by
 obtain ⟨oc,od,kV,doc,pm,an,cdv,ct,osl,rfl,lk,hcd⟩:=F.ex
 exact .all (h kV doc pm an cdv ct)
theorem yO {x qual:Str}{st:Stmt}{f:Addr}{oc:EB}{od an:Option Addr}{osl:Array (Option EB)}{kV doc pm cdv ct:EB}(l:K.lookup f=some ⟨oc,od,.func (PySem.W.fnOf x qual (bP st) (bA st) (au st) .none kV doc pm an cdv ct),osl⟩)
  (c:PySem.W.codeIn K cdv qual=true) (k:PySem.W.keepIn K (.ref f)=true):Fun K x qual st f (PySem.W.fnOf x qual (bP st) (bA st) (au st) .none kV doc pm an cdv ct):=⟨⟨oc,od,kV,doc,pm,an,cdv,ct,osl,rfl,l,c⟩,k⟩
end
theorem oJ {A:FN}{k:Nat}(hr:dB k A):A.units+1<cLine:=Fb (JT (by decide:1<=64) _) hr.units
theorem ik {n:Nat}(h:n<=1000):n<ES:=Fb h (by decide)
section
variable  {X:Cx}
theorem pv (i:Nat){x:Str}{pos:Pos}(hN:X.N[i]? = some x:=by rfl)(hv:Vis X.env.scope x:=by first | exact Or.inl rfl | exact Or.inr (Or.inl rfl) | exact Or.inr (Or.inr rfl))(hd:(x == ("__debug__" : Str))=false:=by decide)
  (hcd:(x == ("__classdict__" : Str))=false:=by decide):PE X (.Name x pos) (Dt i):=Cr hN hv hd hcd
end
theorem aQ {A B:Prop}(h:B):if false=true then A else B:=by
 rw[if_neg EO]
 exact h
theorem aP {A B:Prop}(h:A):if true=true then A else B:=by
 rw[if_pos rfl]
 exact h
theorem dE {c A B:Prop}[Decidable c](h1:c->A)(h2:¬ c->B):if c then A else B:=by
 by_cases h:c
 ·rw[if_pos h]
  exact h1 h
 ·rw[if_neg h]
  exact h2 h
theorem B5 {c A B:Prop}[Decidable c](hc:c)(h:B):if (!decide c)=true then A else B:=by
 rw[decide_eq_true hc]
 exact aQ h
def az (H H':Hp):Prop:=∀b o,H b=some o->H' b=some o
theorem az.refl (H:Hp):az H H:=λ_ _ h=>h
theorem az.trans {H H1 H2:Hp}(a:az H H1)(b:az H1 H2):az H H2:=λc o h=>b c o (a c o h)
theorem az.free {H H':Hp}(e:az H H'){l:Addr}(h:H' l=Option.none):H l=Option.none:=by
 cases q:H l with
 | none=>rfl
 | some o =>
  rw[e l o q] at h
  cases h
theorem az.seq {K:Ez}{H H':Hp}{a:Addr}{xs:List V}(e:az H H')(h:SqL K H a xs):SqL K H' a xs:=by
 rcases h with (h | ⟨o,h⟩) | h
 ·exact .inl (.inl (e _ _ h))
 ·exact .inl (.inr ⟨o,e _ _ h⟩)
 ·exact .inr h
def rA (on:List (Str×NameKind))(N:List Str)(sc:Scope)(N':List Str)(ix:List (Option Nat)):Bool :=
 decide (sc.kind = .function) &&
 sc.names.all (λy=>match y.2 with
  | .local=>decide (sc.names.lookup y.1=some .local)
  | .cell=>false
  | .free=>decide (on.lookup y.1=some .cell) || decide (on.lookup y.1=some .free)
  | _=>true) &&
 decide (ix.length=N'.length) &&
 (ix.zip N').all (λp=>match p.1 with
  | none=>true
  | some j=>decide (N[j]? = some p.2) && decide (sc.names.lookup p.2=some .free))
theorem dk {ns:List (Str×NameKind)}{y:Str}{k:NameKind}(h:ns.lookup y=some k):(y,k)∈ns:=GC h
structure mN (on:List (Str×NameKind))(N:List Str)(sc:Scope)(N':List Str)(ix:List (Option Nat)):Prop where
 kind:sc.kind = .function
 locs:∀y∈sc.names,y.2 = .local->sc.names.lookup y.1=some .local
 nocell:∀y∈sc.names,y.2 ≠ .cell
 frees:∀y∈sc.names,y.2 = .free->on.lookup y.1=some .cell\/on.lookup y.1=some .free
 len:ix.length=N'.length
 slot:∀(i j:Nat) (y:Str),ix[i]? = some (some j)->N'[i]? = some y->N[j]? = some y/\sc.names.lookup y=some .free
theorem mN.of {on:List (Str×NameKind)}{N:List Str}{sc:Scope}{N':List Str}{ix:List (Option Nat)}(h:rA on N sc N' ix=true):mN on N sc N' ix:=by
 unfold rA at h
 rw[Fh,Fh,Fh] at h
 obtain ⟨⟨⟨h1,h2⟩,h3⟩,h4⟩:=h
 rw[GI] at h2 h4
 refine ⟨of_decide_eq_true h1,λy hy e =>?_,λy hy e =>?_,λy hy e =>?_,of_decide_eq_true h3,λi j y e1 e2 =>?_⟩
 ·have q:=h2 y hy
  rw[e] at q
  exact of_decide_eq_true q
 ·have q:=h2 y hy
  rw[e] at q
  cases q
 ·have q:=h2 y hy
  rw[e] at q
  exact ((Bool.or_eq_true _ _).mp q).imp of_decide_eq_true of_decide_eq_true
 ·have q:=h4 (some j,y) (EH (i:=i) (by rw[IM];exact ⟨e1,e2⟩))
  dsimp only at q
  rw[Fh] at q
  exact ⟨of_decide_eq_true q.1,of_decide_eq_true q.2⟩
theorem lH {α β:Type}(f:α -> β -> β)(b:α -> β -> Sem (ForInStep β)):∀(l:List α) (c:β),(∀x∈l,∀d,b x d=pure (.yield (f x d)))->forIn l c b=pure (l.foldl (λd x=>f x d) c)
 | [],c,_=>rfl
 | x :: l,c,h=>by
  rw[K7,h x E7,pure_bind]
  exact lH f b l (f x c) λy hy=>h y (E8 _ hy)
def aR (env:Env)(l:List (Str×NameKind))(c:List (Str×Addr)):List (Str×Addr) :=
 l.foldl (λd y=>if y.2 = .free then (y.1,(env.cells.lookup y.1).getD 0) :: d else d) c
theorem mO {sc:Scope}{env:Env}(h:∀y∈sc.names,y.2 = .free->∃c,env.cells.lookup y.1=some c):closureFor sc env=pure (aR env sc.names []):=by
 simp only[closureFor]
 unfold aR
 rw[lH (λy d=>if y.2 = .free then (y.1,(env.cells.lookup y.1).getD 0) :: d else d)]
 ·rfl
 ·rintro ⟨n,k⟩ hy d
  by_cases hk:k = .free
  ·subst hk
   obtain ⟨c,e⟩:=h _ hy rfl
   have e':env.cells.lookup n=some c:=e
   simp only[beq_self_eq_true,if_true,cellOf,e',Option.getD_some]
   rfl
  ·have hb:(k == NameKind.free)=false:=by simpa using hk
   simp only[hb,Fc,if_false,hk]
theorem cn {env:Env}{y:Str}{c:Addr}:∀(l:List (Str×NameKind)) (d:List (Str×Addr)),(∀z∈l,z.2 = .free->∃c,env.cells.lookup z.1=some c)->(aR env l d).lookup y=some c →
  d.lookup y=some c\/env.cells.lookup y=some c
 | [],d,_,h =>.inl h
 | (n,k) :: l,d,hf,h=>by
  have h':(aR env l (if k = .free then (n,(env.cells.lookup n).getD 0) :: d else d)).lookup y=some c:=h
  have ih:=cn l _ (λz hz=>hf z (E8 _ hz)) h'
  by_cases hk:k = .free
  ·subst hk
   rw[if_pos rfl] at ih
   rcases ih with q | q
   ·rw[Hv] at q
    cases hx:(y == n) with
    | true =>
     rw[hx] at q
     obtain ⟨c',e⟩:=hf (n,.free) E7 rfl
     have e':env.cells.lookup n=some c':=e
     have q':some ((env.cells.lookup n).getD 0)=some c:=q
     rw[e'] at q'
     have en:y=n:=eq_of_beq hx
     rw[en,e']
     exact .inr q'
    | false =>
     rw[hx] at q
     exact .inl q
   ·exact .inr q
  ·rw[if_neg hk] at ih
   exact ih
theorem cP {env:Env}{y:Str}:∀(l:List (Str×NameKind)) (d:List (Str×Addr)),((y,NameKind.free)∈l\/∃c,d.lookup y=some c)->∃c,(aR env l d).lookup y=some c
 | [],d,h=>by
  rcases h with h | h
  ·cases h
  ·exact h
 | (n,k) :: l,d,h=>by
  show ∃c,(aR env l (if k = .free then (n,(env.cells.lookup n).getD 0) :: d else d)).lookup y=some c
  refine cP l _ ?_
  have old:(∃c,d.lookup y=some c)->∃c,(if k = .free then (n,(env.cells.lookup n).getD 0) :: d else d).lookup y=some c:=λ⟨c,e⟩=>by
   by_cases hk:k = .free
   ·rw[if_pos hk,Hv]
    cases hx:(y == n) with
    | true=>exact ⟨_,rfl⟩
    | false=>exact ⟨c,e⟩
   ·rw[if_neg hk];exact ⟨c,e⟩
  rcases h with h | h
  ·rcases EW.mp h with q | q
   ·cases q
    rw[if_pos rfl,Hv,beq_self_eq_true]
    exact .inr ⟨_,rfl⟩
   ·exact .inl q
  ·exact .inr (old h)
theorem gB {c:Str->NameKind->Bool}{y:Str}:∀l:List (Str×NameKind),(l.map λz=>if c z.1 z.2=true then (z.1,NameKind.cell) else (z.1,z.2)).lookup y=(l.lookup y).map λk=>if c y k=true then NameKind.cell else k
 | []=>rfl
 | (n,k) :: l=>by
  have ih:=gB (c:=c) (y:=y) l
  rw[EZ]
  have e:(if c n k=true then (n,NameKind.cell) else (n,k))=(n,if c n k=true then NameKind.cell else k):=by split <;> rfl
  show List.lookup y ((if c n k=true then (n,NameKind.cell) else (n,k)) :: _)=_
  rw[e,Hv,Hv]
  cases hx:(y == n) with
  | true =>
   have en:y=n:=eq_of_beq hx
   subst en
   rfl
  | false=>exact ih
def blk (X:Cx)(sc:Scope)(cl:List (Str×Addr))(C:Addr)(N':List Str)(s:EG)(H:Hp)(fp:List Addr):Cx :=
 { X with N:=N',s₀:=s,H₀:=H,env:=compEnvC sc cl C X.env,outer:=X.stack,ex:=fp,fn:=λ_=>false,pn:=[],xe:=λ_ _=>False }
def PF (X:Cx)(ifs:List Expr)(t:TT):Prop :=
  ∀(pins:List (Addr×Obj)) (s:EG) (σ:St) (H:Hp) (Q:Bool->Hp->Prop),Inv X pins σ H s->t σ H Q →
    E4 (Fq X.prog X.w) X.A (forIn ifs true λc r=>if r=true then do let ok ← isTrue c X.env (eval c X.env);pure (ForInStep.yield ok) else pure (ForInStep.yield r)) (TP X pins σ Q) X.xe s
theorem cf {X:Cx}:PF X [] (λ_ H Q=>Q true H):=λ_ _ _ H _ I h=>wpAny_tests_nil ⟨H,I,h⟩
theorem dO {X:Cx}{c:Expr}{t:TT}(h:PT X c t):PF X [c] t:=λpins s σ H Q I q=>wpAny_tests_one (h pins s σ H Q I q)
def inner (ix:List (Option Nat))(σ:St):St:=ix.map λo=>match o with | none=>none | some j=>(σ[j]?).join
def rC (J:It)(g:TG)(tc:TT)(te:TE)(τ:St)(Q:VK)(H1:Hp):Prop:=∃W:Nat->Nat->St->List V->Hp->Prop,(∃m,W 0 m τ [] H1)/\∀i m τ ys H,W i m τ ys H →
 (J.stop i H/\ys.length<=ES/\∀l,H l=none->Q (.ref l) (upd H l (.lst ys))) ∨
 (J.go i H/\∀x H',J.yld i H x H'->g x τ H' λτ2 H2=>tc τ2 H2 λb H3=>if b=true then te τ2 H3 λy H4=>ys.length<ES/\∃m',m'<m/\W (i+1) m' τ2 (ys++[y]) H4 else ∃m',m'<m/\W (i+1) m' τ2 ys H3)
def rD (ix:List (Option Nat))(wi:TI)(g:TG)(tc:TT)(te:TE):TE:=λσ H Q=>wi σ H λJ H1=>rC J g tc te (inner ix σ) Q H1
section
variable  {X:Cx}{sc:Scope}{N':List Str}{ix:List (Option Nat)}{pins:List (Addr×Obj)}{σ:St}{H:Hp}{s:EG}
theorem CJ (I:Inv X pins σ H s)(K:mN X.env.scope.names X.N sc N' ix){C:Addr}{fp:List Addr}(hC:s.heap.objs.size<=C)(f:∀b∈fp,gs X pins H b)(fl:∀b∈fp,b<s.heap.objs.size) :
  (blk X sc (aR X.env sc.names []) C N' s H fp).Ok:=by
 have hcl:∀y∈sc.names,y.2 = .free->∃c,X.env.cells.lookup y.1=some c:=λy hy e=>I.ok.has y.1 (K.frees y hy e)
 have up:∀y c,(aR X.env sc.names []).lookup y=some c->X.env.cells.lookup y=some c:=λy c e=>by
  rcases cn sc.names [] hcl e with q | q
  ·cases q
  ·exact q
 have nfs:∀b∈fp,b∉frs X.stack:=λb hb z=>by
  rcases EW.mp (I.j8 b z) with q | q
  ·exact (f b hb).2.1 q
  ·exact (f b hb).2.2.1 q
 refine ⟨I.ok.mod,K.kind,I.ok.glob,I.ok.blt,hC,λy z c h1 h2=>I.ok.inj y z c (up _ _ h1) (up _ _ h2),λy hy =>?_,(λy c h=>nomatch h),I.ok.hd,I.ok.frames,.inl rfl,λb hb =>?_,λb o e=>I.bs b o e,Ff I.ok.bsz I.sz,λb o e hb =>?_,nfs,I.stack,I.pO⟩
 ·have hy':(relabel sc X.env).names.lookup y=some .cell\/(relabel sc X.env).names.lookup y=some .free:=hy
  have em:=gB (c:=λn k=>k == .free && X.env.scope.kind == .function && X.env.kindOf n == some .cell) (y:=y) sc.names
  have em':(relabel sc X.env).names.lookup y=_:=em
  rw[em'] at hy'
  cases hq:sc.names.lookup y with
  | none=>rw[hq] at hy';rcases hy' with q | q <;> cases q
  | some k =>
   have km:=dk hq
   have hk:k = .free:=by
    rw[hq] at hy'
    simp only[Hq,Mi] at hy'
    by_cases hc:(k == .free && X.env.scope.kind == .function && X.env.kindOf y == some .cell)=true
    ·rw[Fh,Fh] at hc
     exact by simpa using hc.1.1
    ·rw[if_neg hc] at hy'
     rcases hy' with q | q
     ·exact absurd q (K.nocell _ km)
     ·exact q
   subst hk
   exact cP sc.names [] (.inl km)
 ·exact ⟨EY (EL (fl b hb) hC),λy c e=>(f b hb).2.2.2.2.1 y c (up y c e)⟩
 ·rcases (f b hb).2.2.2.1 with q | q
  ·exact I.ok.noex b o e q
  ·exact absurd (EL (EN e) (Ff I.ok.bsz q)) (Fl _)
theorem A0 (I:Inv X pins σ H s)(K:mN X.env.scope.names X.N sc N' ix){C:Addr}{fp:List Addr}(hC:s.heap.objs.size<=C)(f:∀b∈fp,gs X pins H b)(fl:∀b∈fp,b<s.heap.objs.size)
  {h1:Heap} {t:Nat} {m:Str->Option EB} (k:∀b o,s.heap.get? b=some o->h1.get? b=some o) (ns:h1.Ns C m) :
  Inv (blk X sc (aR X.env sc.names []) C N' s H fp) [] (inner ix σ) H { s with heap:=h1,toks:=t }:=by
 have hcl:∀y∈sc.names,y.2 = .free->∃c,X.env.cells.lookup y.1=some c:=λy hy e=>I.ok.has y.1 (K.frees y hy e)
 have up:∀y c,(aR X.env sc.names []).lookup y=some c->X.env.cells.lookup y=some c:=λy c e=>by
  rcases cn sc.names [] hcl e with q | q
  ·cases q
  ·exact q
 refine ⟨CJ I K hC f fl,rfl,I.bare,Un.kept k,⟨m,ns,λi y v e1 e2 e3 =>?_⟩,λy c e =>?_,I.hok.fresh hC,λy c e=>I.freeC y c (up y c e),(λp hp=>nomatch hp),I.hok.kept k,?_⟩
 ·have e2':(ix.map λo=>match o with | none=>none | some j=>(σ[j]?).join)[i]? = some (some v):=e2
  rw[ET] at e2'
  cases hi:ix[i]? with
  | none=>rw[hi] at e2';cases e2'
  | some o =>
   cases o with
   | none=>rw[hi] at e2';cases e2'
   | some j =>
    rw[hi] at e2'
    have e4:(σ[j]?).join=some v:=EX e2'
    have e5:σ[j]? = some (some v):=by
     cases hj:σ[j]? with
     | none=>rw[hj] at e4;cases e4
     | some z=>rw[hj] at e4;rw[show z=some v from e4]
    obtain ⟨n1,n2⟩:=K.slot i j y hi e1
    have mem:=dk n2
    have kc:X.env.kindOf y=some .cell\/X.env.kindOf y=some .free:=K.frees _ mem rfl
    obtain ⟨m',_,hl⟩:=I.loc
    obtain ⟨u,r,l⟩:=hl j y v n1 e5 (.inr kc)
    refine ⟨u,r,?_⟩
    rcases l with ⟨q,_⟩ | ⟨_,c,q,z⟩
    ·rcases kc with kc | kc <;> (rw[kc] at q;cases q)
    ·obtain ⟨c',hc'⟩:=cP (env:=X.env) (y:=y) sc.names [] (.inl mem)
     have:=up y c' hc'
     rw[q] at this
     cases this
     refine .inr ⟨?_,c,hc',z.keeps k⟩
     have em:=gB (c:=λn k=>k == .free && X.env.scope.kind == .function && X.env.kindOf n == some .cell) (y:=y) sc.names
     have em':(relabel sc X.env).names.lookup y=_:=em
     rcases kc with kc | kc
     ·left
      show (relabel sc X.env).names.lookup y=some .cell
      rw[em',n2]
      simp only[Hq,kc,I.ok.kind]
      rfl
     ·right
      show (relabel sc X.env).names.lookup y=some .free
      rw[em',n2]
      simp only[Hq,kc,I.ok.kind]
      rfl
 ·obtain ⟨v,z⟩:=I.cell y c (up y c e)
  exact ⟨v,z.keeps k⟩
 ·show (ix.map _).length=N'.length
  rw[Ex]
  exact K.len
end
theorem mP {prog:EV}{w:Fm}{A:FN}{R:Result->EG->Prop}{s:EG}{elt target iter:Expr}{ifs:List Expr}{sc:Scope}{pos:Pos}{it acc:EB}{env:Env}(J:Nat->EG->Prop)
    (turn:∀n s,J n s->E4 (Fq prog w) A (pyNext it) (λr s1=>match r with
      | none=>R (.ok .next) s1
      | some v=>E4 (Fq prog w) A (letOwnedTupleGo target it v) (λ_ s2=>E4 (Fq prog w) A (assign target env v) (λ_ s3 =>
          E4 (Fq prog w) A (forIn ifs true λc r=>if r=true then do let ok ← isTrue c env (eval c env);pure (ForInStep.yield ok) else pure (ForInStep.yield r)) (λok s4 =>
            if ok=true then E4 (Fq prog w) A (eval elt env) (λx s5=>E4 (Fq prog w) A (call (.builtin "list.append") [acc,x]) (λ_ s6=>∃m,m<n/\J m s6) (λ_ _=>False) s5) (λ_ _=>False) s4
            else ∃m,m<n/\J m s4) (λ_ _=>False) s3) (λ_ _=>False) s2) (λ_ _=>False) s1) (λ_ _=>False) s)
    (n:Nat) (h:J n s):IW (Fq prog w) A (.compLoop (.ListComp elt [⟨target,iter,ifs,0⟩] sc pos) 0 it acc env) R s:=by
  refine codeAny_loop rfl J (λk t q =>?_) n h
  show E4 _ A (Sem.onRaise (compTurn (.ListComp elt [⟨target,iter,ifs,0⟩] sc pos) 0 it acc env) (λx=>do noteFrame x env;theTreesLotGoes x)) _ _ t
  refine wpAny_noted ?_
  rw[compTurn_list]
  have no:∀{E:EB->EG->Prop} (x:EB) (t:EG),False->E x t:=λ_ _ z=>z.elim
  refine Ew (Jj (Ew (Hh (turn k t q) (λr s1 h1 =>?_) no)))
  cases r with
  | none=>exact EC h1
  | some v =>
    refine Ew (Hh h1 (λ_ s2 h2=>Ew (Hh h2 (λ_ s3 h3=>Ew (Hh h3 (λok s4 h4 =>?_) no)) no)) no)
    cases ok with
    | false=>exact EC ⟨rfl,h4⟩
    | true=>exact Ew (Ew (Hh h4 (λx s5 h5=>Ew (Hh h5 (λ_ s6 h6=>EC (EC ⟨rfl,h6⟩)) no)) no))
section
variable  {X:Cx}
def vg (X:Cx)(pins:List (Addr×Obj))(σ:St)(Q:VK)(use:Option (EB->Sem Unit))(Q2:EB->EG->Prop):Prop :=
 ∀(s4:EG) (H3:Hp) (acc C:Addr) (ys:List V) (oC:Obj),Inv X (pins++[(C,oC)]) σ (upd H3 acc (.lst ys)) s4->(∃m,s4.heap.Ns C m)->X.s₀.heap.objs.size<=C->(∀x c,X.env.cells.lookup x=some c->c≠C)->(∀p∈X.pn++pins,p.1≠C)->Q (.ref acc) (upd H3 acc (.lst ys)) →
  compPost (Fq X.prog X.w) X.A X.xe use Q2 (.ref acc) C (.ok .next) s4
theorem oK {elt target iter:Expr}{ifs:List Expr}{sc:Scope}{pos ps:Pos}{wi:TI}{g:TG}{tc:TT}{te:TE}{N':List Str}{ix:List (Option Nat)}{use:Option (EB->Sem Unit)}{Q2:EB->EG->Prop}
  {pins:List (Addr×Obj)} {s:EG} {σ:St} {H:Hp} {Q:VK}
  (hcalm:X.calm=true) (hi:PI X target iter wi) (hk:rA X.env.scope.names X.N sc N' ix=true)
  (hg:∀cl C s H fp,PG (blk X sc cl C N' s H fp) target g) (hc:∀cl C s H fp,PF (blk X sc cl C N' s H fp) ifs tc) (he:∀cl C s H fp,PE (blk X sc cl C N' s H fp) elt te)
  (hs:∀x,foldedSetIterable iter X.env x=pure x) (fin:vg X pins σ Q use Q2) (I:Inv X pins σ H s) (h:rD ix wi g tc te σ H Q) :
  E4 (Fq X.prog X.w) X.A (comprehension (.ListComp elt [⟨target,iter,ifs,0⟩] sc pos) sc X.env ps (newList []) false (eval iter X.env) use) Q2 X.xe s:=by
 have K:=mN.of hk
 have hcl:∀y∈sc.names,y.2 = .free->∃c,X.env.cells.lookup y.1=some c:=λy hy e=>I.ok.has y.1 (K.frees y hy e)
 refine Ku rfl hs (mO hcl) K.kind K.locs (thn (hi pins s σ H _ I h) λv s1 h1=>thn h1 λitv s2 h2 =>?_)
 obtain ⟨it,fp,tn,J,H2,e,I2,T,st2,f2,W,⟨m0,w0⟩,turn⟩:=h2
 subst e
 refine Ft (wpAny_newFunctionEnv K.nocell (by intro y hy;simp at hy) (λh1 ns1 sb1 =>?_) K.kind)
 dsimp only at ns1 sb1 ⊢
 generalize hP:s2.heap.push { cls :=.type "list",dict:=none,data :=.seq ([]:List EB).toArray }=G at ns1 sb1 ⊢
 have sG:G.objs.size=s2.heap.objs.size+1:=by rw[<- hP,FK]
 have fl:∀b∈fp,b<s2.heap.objs.size:=λb hb=>by
  obtain ⟨o,e,_⟩:=T.obj _ _ st2 b hb
  exact EN e
 have hC:s2.heap.objs.size<=G.objs.size:=by rw[sG];exact JU _
 have aC:s2.heap.objs.size≠G.objs.size:=by rw[sG];exact EY (F8 _)
 have old:∀b o,s2.heap.get? b=some o->h1.get? b=some o:=λb o e=>by
  have lt:=EN e
  have ne:b≠G.objs.size:=EY (EL lt hC)
  rw[sb1.2 b ne]
  exact Ey _ (hP ▸ Ey _ e)
 have accO:h1.PlainList s2.heap.objs.size #[]:=⟨_,by
  rw[sb1.2 _ aC]
  exact Ey _ (hP ▸ EK _ rfl)⟩
 have IB:=A0 (t:=s2.toks+([]:List (Str×EB)).length) I2 K hC f2 fl old ns1
 have up:∀y c,(aR X.env sc.names []).lookup y=some c->X.env.cells.lookup y=some c:=λy c e=>by
  rcases cn sc.names [] hcl e with q | q
  ·cases q
  ·exact q
 have accNotCell:∀y c,(aR X.env sc.names []).lookup y=some c->c≠s2.heap.objs.size:=λy c e z=>by
  obtain ⟨v,q⟩:=I2.cell y c (up y c e)
  exact absurd q.lt (by rw[z];exact Fl _)
 have accFs:s2.heap.objs.size∉frs X.stack:=λz=>by
  rcases EW.mp (I2.j8 _ z) with q | q
  ·exact absurd I2.lt (by rw[<- q];exact Fl _)
  ·exact I2.yt (EI _) q
 have accFp:s2.heap.objs.size∉fp:=λz=>absurd (fl _ z) (Fl _)
 have stat:∀{H':Hp} {ob:Obj},(∀b∈fp,H' b=none)->∀b∈fp,gs (blk X sc (aR X.env sc.names []) G.objs.size N' s2 H2 fp) [(s2.heap.objs.size,ob)] H' b:=λ{H' ob} hn b hb=>by
  refine ⟨hn b hb,EY (EL (fl b hb) hC),IB.ok.exfs b hb,.inl hb,λy c e=>(f2 b hb).2.2.2.2.1 y c (up y c e),λp hp z =>?_⟩
  have ep:p=(s2.heap.objs.size,ob):=by simpa [blk] using hp
  subst ep
  exact accFp (by rw[show s2.heap.objs.size=b from z];exact hb)
 have accPin:∀{pl:List (Addr×Obj)} {σ':St} {H':Hp} {s':EG} {its:Array EB} {n:Nat},Inv (blk X sc (aR X.env sc.names []) G.objs.size N' s2 H2 fp) pl σ' H' s'->s'.heap.get? s2.heap.objs.size=some { cls :=.type "list",data :=.seq its n } →
   H' s2.heap.objs.size=none->Inv (blk X sc (aR X.env sc.names []) G.objs.size N' s2 H2 fp) [(s2.heap.objs.size,{ cls :=.type "list",data :=.seq its n })] σ' H' s':=λ{pl σ' H' s' its n} J' e nn=>J'.d9 λp hp=>by
  have ep:p=(s2.heap.objs.size,({ cls :=.type "list",data :=.seq its n }:Obj)):=by simpa [blk] using hp
  subst ep
  exact ⟨e,nn,aC,accFs,λv z=>nomatch z⟩
 have loop:IW (Fq X.prog X.w) X.A (.compLoop (.ListComp elt [⟨target,iter,ifs,0⟩] sc pos) 0 (.ref it) (.ref s2.heap.objs.size) (compEnvC sc (aR X.env sc.names []) G.objs.size X.env))
   (compPost (Fq X.prog X.w) X.A X.xe use Q2 (.ref s2.heap.objs.size) G.objs.size) { s2 with heap:=h1,toks:=s2.toks+([]:List (Str×EB)).length }:=by
  refine mP (λn s'=>∃i ys its nn σ' H',Inv (blk X sc (aR X.env sc.names []) G.objs.size N' s2 H2 fp) [(s2.heap.objs.size,{ cls :=.type "list",data :=.seq its nn })] σ' H' s'/\Vals ys its.toList/\tn i s'.heap/\(∀b∈fp,H' b=none)/\W i n σ' ys H')
   (λn s3 h3 =>?_) m0 ?_
  ·obtain ⟨i,ys,its,nn,σ3,H3,I3,r3,st3,fr3,w3⟩:=h3
   obtain ⟨e3,a3,_,_,_⟩:=I3.pin (s2.heap.objs.size,{ cls :=.type "list",data :=.seq its nn }) (by simp[blk])
   rcases turn i n σ3 ys H3 w3 with ⟨stop,zl,q3⟩ | ⟨go,step⟩
   ·refine thn (T.done (blk X sc (aR X.env sc.names []) G.objs.size N' s2 H2 fp) rfl rfl rfl hcalm i _ s3 σ3 H3 _ I3 (stat fr3) st3 stop) λr s4 ⟨hr,I4⟩ =>?_
    subst hr
    obtain ⟨e4,a4,_,_,_⟩:=I4.pin (s2.heap.objs.size,{ cls :=.type "list",data :=.seq its nn }) (by simp[blk])
    obtain ⟨m4,n4,_⟩:=I4.loc
    obtain ⟨oC,es4,ep4,c4,d4,r4⟩:=id n4
    have ltA:∀b o,s2.heap.get? b=some o->b≠s2.heap.objs.size:=λb o e=>EY (EN e)
    have B:=I4.base
    have hok:HOk X.prog X.w (upd H3 s2.heap.objs.size (.lst ys)) s4.heap:=λb o e=>by
     by_cases hb:b=s2.heap.objs.size
     ·subst hb
      rw[ai] at e
      cases e
      exact ⟨zl,its.toList,nn,r3,e4⟩
     ·rw[aH hb] at e
      refine (I4.hok b o e).stay (λc u hc q=>q) (λc q =>?_) (λc xs q =>?_)
      ·rw[aH (aJ q a4)];exact q
      ·rw[aH (aJ q a4)];exact q
    have I5:Inv X pins σ (upd H3 s2.heap.objs.size (.lst ys)) s4:=by
     refine I2.BY (ch:=fp) I4.os ⟨λb o e n hb hx=>B.keep b o e n hb hx,λb o e n hb hx=>B.slot b o e n hb hx,λb o e n hx =>?_,λb o e hx=>B.there b o e hx,λb xs e =>?_,λb o u e =>?_,λb ps e =>?_⟩ hok I4.bare (λb hb =>?_)
     ·rw[aH (ltA b o e)];exact B.free b o e n hx
     ·have q:=B.tups b xs e
      rw[aH (aJ q a4)];exact q
     ·have q:=B.frzs b o u e
      rw[aH (aJ q a4)];exact q
     ·obtain ⟨more,q⟩:=B.tbls b ps e
      exact ⟨more,by rw[aH (aJ q a4)];exact q⟩
     ·obtain ⟨g0,g1,g2,g3,g4,g5⟩:=f2 b hb
      exact ⟨g3,g1,g4,g5⟩
    have cL:G.objs.size≠X.env.locals:=GZ (EL I2.lt hC)
    have I6:Inv X (pins++[(G.objs.size,oC)]) σ (upd H3 s2.heap.objs.size (.lst ys)) s4:=I5.d9 λp hp=>by
     rcases EU.mp hp with q | q
     ·exact I5.pin p (E5 _ q)
     ·have ep:p=(G.objs.size,oC):=by simpa using q
      subst ep
      exact ⟨c4,by rw[aH (Gn aC)];exact I4.free,cL,I2.yt hC,λv z=>by rw[d4] at z;cases z⟩
    refine fin s4 H3 s2.heap.objs.size G.objs.size ys oC I6 ⟨m4,n4⟩ (Ff I2.sz hC) (λy c e z =>?_) (λp hp z =>?_) (q3 _ a4)
    ·obtain ⟨v,q⟩:=I2.cell y c e
     exact absurd (EL q.lt hC) (by rw[z];exact Fl _)
    ·exact absurd (EL (EN (I2.pin p hp).1) hC) (by rw[z];exact Fl _)
   ·refine thn (T.item (blk X sc (aR X.env sc.names []) G.objs.size N' s2 H2 fp) rfl rfl rfl hcalm i _ s3 σ3 H3 _ I3 (stat fr3) st3 go) λr s4 ⟨u,hr,h4⟩ =>?_
    subst hr
    refine thn h4 λ_ s5 ⟨x,H5,I5,r5,y5,st5,fr5⟩ =>?_
    have I5':=I5.pinned (stat fr5) (T.obj _ _ st5)
    refine thn (hg _ _ _ _ _ _ s5 σ3 H5 x u _ I5' r5 (step x H5 y5)) λ_ s6 ⟨σ6,H6,I6,q6⟩ =>?_
    refine thn (hc _ _ _ _ _ _ s6 σ6 H6 _ I6 q6) λok s7 ⟨H7,I7,q7⟩ =>?_
    have back:∀{σ7:St} {H7:Hp} {s7:EG},Inv (blk X sc (aR X.env sc.names []) G.objs.size N' s2 H2 fp) ([(s2.heap.objs.size,{ cls :=.type "list",data :=.seq its nn })]++eS fp s5.heap) σ7 H7 s7->tn (i+1) s7.heap/\∀b∈fp,H7 b=none:=λJ7 =>
     ⟨T.keep _ _ _ st5 λb hb o e=>(J7.pin (b,o) (E5 _ (E5 _ (bZ hb e)))).1,λb hb=>by
      obtain ⟨o,e,d⟩:=T.obj _ _ st5 b hb
      exact (J7.pin (b,o) (E5 _ (E5 _ (bZ hb e)))).2.1⟩
    cases ok with
    | false =>
     rw[if_neg (by decide)] at q7
     obtain ⟨m',lm,w7⟩:=q7
     show ∃m,m<n/\_
     exact ⟨m',lm,i+1,ys,its,nn,σ6,H7,I7.dj,r3,(back I7).1,(back I7).2,w7⟩
    | true =>
     rw[if_pos rfl] at q7
     refine thn (he _ _ _ _ _ _ s7 σ6 H7 _ I7 q7) λz s8 ⟨y,H8,I8,r8,lz,m',lm,w8⟩ =>?_
     obtain ⟨e8,a8,_,_,_⟩:=I8.pin (s2.heap.objs.size,{ cls :=.type "list",data :=.seq its nn }) (by simp[blk])
     have sz:its.size<=ES:=by
      have l:ys.length=its.size:=r3.length.trans E3
      rw[<- l]
      exact Gz lz
     refine KJ ⟨nn,e8⟩ (λh' pl' sb' =>?_) sz
     obtain ⟨n9,e9⟩:=pl'
     have I8p:Inv (blk X sc (aR X.env sc.names []) G.objs.size N' s2 H2 fp) (eS fp s5.heap) σ6 H8 s8:=I8.d9 λp hp=>I8.pin p (E5 _ (E5 _ hp))
     have I9:=I8p.turned (it:=s2.heap.objs.size) (h':=h') (t':=s8.toks) (λb o ne e=>by rw[sb'.2 b ne];exact e) a8 aC (.inr (EI _)) (λy c e=>accNotCell y c e) (λp hp z=>by
      have hp':p∈eS fp s5.heap:=by simpa [blk] using hp
      exact accFp (by rw[<- z];exact (kj hp').1))
     have b9:tn (i+1) h'/\∀b∈fp,H8 b=none :=
      ⟨T.keep _ _ _ st5 λb hb o e=>(I9.pin (b,o) (E5 _ (bZ hb e))).1,(back I8).2⟩
     exact ⟨m',lm,i+1,ys++[y],its.push z,n9,σ6,H8,accPin I9 e9 a8,by rw[Jo];exact r3.append (.cons r8 .nil),b9.1,b9.2,w8⟩
  ·obtain ⟨n0,e0⟩:=accO
   exact ⟨0,[], #[],n0,_,H2,accPin IB e0 (I2.hok.fresh (EI _)),.nil,T.keep _ _ _ st2 λb hb o e=>old b o e,λb hb=>(f2 b hb).1,w0⟩
 exact K5 loop (T.self _ 0 _ _ _ (T.keep _ _ _ st2 λb hb o e=>old b o e) loop)
theorem bc {elt target iter:Expr}{ifs:List Expr}{sc:Scope}{pos:Pos}{wi:TI}{g:TG}{tc:TT}{te:TE}(N':List Str)(ix:List (Option Nat))
  (hcalm:X.calm=true) (hi:PI X target iter wi) (hk:rA X.env.scope.names X.N sc N' ix=true)
  (hg:∀cl C s H fp,PG (blk X sc cl C N' s H fp) target g) (hc:∀cl C s H fp,PF (blk X sc cl C N' s H fp) ifs tc) (he:∀cl C s H fp,PE (blk X sc cl C N' s H fp) elt te)
  (hs:∀x,foldedSetIterable iter X.env x=pure x:=by intro _;rfl):PE X (.ListComp elt [⟨target,iter,ifs,0⟩] sc pos) (rD ix wi g tc te):=by
 intro pins s σ H Q I h
 rw[eval_ListComp]
 refine oK hcalm hi hk hg hc he hs (λs4 H3 acc C ys oC I4 ns hC hc hp q =>?_) I h
 obtain ⟨m,ns⟩:=ns
 refine ⟨m,ns,λh' sb=>⟨.ref acc,_,?_,rfl,q⟩⟩
 obtain ⟨_,n0,n1,n2,_⟩:=I4.pin (C,oC) (by simp)
 exact (I4.dj).turned (it:=C) (h':=h') (t':=s4.toks) (λb o ne e=>by rw[sb.2 b ne];exact e) n0 n1 (.inr hC) hc hp
theorem cE {elt target iter:Expr}{ifs:List Expr}{sc:Scope}{pos pos' spos:Pos}{wi:TI}{g:TG}{tc:TT}{te:TE}{i:Nat}{x:Str}(N':List Str)(ix:List (Option Nat))
    (hcalm:X.calm=true) (hN:X.N.Nodup) (hx:X.N[i]? = some x) (hl:X.env.scope.names.lookup x=some .local)
    (hi:PI X target iter wi) (hk:rA X.env.scope.names X.N sc N' ix=true)
    (hg:∀cl C s H fp,PG (blk X sc cl C N' s H fp) target g) (hc:∀cl C s H fp,PF (blk X sc cl C N' s H fp) ifs tc) (he:∀cl C s H fp,PE (blk X sc cl C N' s H fp) elt te)
    (hsw:swapsWith (.ListComp elt [⟨target,iter,ifs,0⟩] sc pos) (some (.Name x pos')) spos.line X.env=pure true:=by rfl)
    (hs:∀x,foldedSetIterable iter X.env x=pure x:=by intro _;rfl):PS X (.Assign [.Name x pos'] (.ListComp elt [⟨target,iter,ifs,0⟩] sc pos) spos) (Cv (rD ix wi g tc te) (jC i)):=by
  intro pins s σ H D I h
  rw[exec_Assign_Name_used _ _ _ _ hsw]
  refine Ew (Jj (Ew ?_))
  show E4 _ X.A (do let _ ← comprehension (.ListComp elt [⟨target,iter,ifs,0⟩] sc pos) sc X.env _ (newList []) false (eval iter X.env) (some (assign (.Name x pos') X.env))) _ _ s
  refine Ew (Hh (oK (Q:=λv H1=>D.nx (σ.set i (some v)) H1) (Q2:=λ_ s'=>SP X pins D .next s') hcalm hi hk hg hc he hs (λs4 H3 acc C ys oC I4 ns hC hc hp q =>?_) I h) (λ_ s' q=>EC (EC q)) λ_ _ e=>e)
  obtain ⟨m,ns⟩:=ns
  obtain ⟨e0,n0,n1,n2,_⟩:=I4.pin (C,oC) (by simp)
  show E4 _ X.A (assign (.Name x pos') X.env (.ref acc)) _ _ s4
  refine thn ((aE (i:=i) hN hx (.inl hl) (.inr hl)) (pins++[(C,oC)]) s4 σ _ (.ref acc) (.ref acc) _ I4 rfl q) λ_ s5 ⟨σ5,H5,I5,q5⟩ =>?_
  obtain ⟨e5,k0,k1,k2,_⟩:=I5.pin (C,oC) (by simp)
  obtain ⟨o',es',ep',c',r'⟩:=ns
  have e':=e0.symm.trans c'
  cases e'
  refine ⟨m,⟨_,es',ep',e5,r'⟩,λh' sb=>⟨σ5,H5,?_,q5⟩⟩
  exact (I5.dj).turned (it:=C) (h':=h') (t':=s5.toks) (λb o ne e=>by rw[sb.2 b ne];exact e) k0 k1 (.inr hC) hc hp
end
def pX (on:List (Str×NameKind))(N:List Str)(sc:Scope)(N':List Str)(ix:List (Option Nat)):Bool :=
 decide (sc.kind = .function) &&
 sc.names.all (λy=>match y.2 with
  | .local=>decide (sc.names.lookup y.1=some .local)
  | .cell=>decide (sc.names.lookup y.1=some .cell)
  | .free=>decide (on.lookup y.1=some .cell) && decide (sc.names.lookup y.1=some .free)
  | _=>true) &&
 decide (ix.length=N'.length) &&
 (ix.zip N').all (λp=>match p.1 with
  | none=>true
  | some j=>decide (N[j]? = some p.2) && decide (sc.names.lookup p.2=some .free))
structure ip (on:List (Str×NameKind))(N:List Str)(sc:Scope)(N':List Str)(ix:List (Option Nat)):Prop where
 kind:sc.kind = .function
 locs:∀y∈sc.names,y.2 = .local->sc.names.lookup y.1=some .local
 cels:∀y∈sc.names,y.2 = .cell->sc.names.lookup y.1=some .cell
 frees:∀y∈sc.names,y.2 = .free->on.lookup y.1=some .cell
 freeL:∀y∈sc.names,y.2 = .free->sc.names.lookup y.1=some .free
 len:ix.length=N'.length
 slot:∀(i j:Nat) (y:Str),ix[i]? = some (some j)->N'[i]? = some y->N[j]? = some y/\sc.names.lookup y=some .free
theorem ip.of {on:List (Str×NameKind)}{N:List Str}{sc:Scope}{N':List Str}{ix:List (Option Nat)}(h:pX on N sc N' ix=true):ip on N sc N' ix:=by
 unfold pX at h
 rw[Fh,Fh,Fh] at h
 obtain ⟨⟨⟨h1,h2⟩,h3⟩,h4⟩:=h
 rw[GI] at h2 h4
 refine ⟨of_decide_eq_true h1,λy hy e =>?_,λy hy e =>?_,λy hy e =>?_,λy hy e =>?_,of_decide_eq_true h3,λi j y e1 e2 =>?_⟩
 ·have q:=h2 y hy
  rw[e] at q
  exact of_decide_eq_true q
 ·have q:=h2 y hy
  rw[e] at q
  exact of_decide_eq_true q
 ·have q:=h2 y hy
  rw[e] at q
  dsimp only at q
  rw[Fh] at q
  exact of_decide_eq_true q.1
 ·have q:=h2 y hy
  rw[e] at q
  dsimp only at q
  rw[Fh] at q
  exact of_decide_eq_true q.2
 ·have q:=h4 (some j,y) (EH (i:=i) (by rw[IM];exact ⟨e1,e2⟩))
  dsimp only at q
  rw[Fh] at q
  exact ⟨of_decide_eq_true q.1,of_decide_eq_true q.2⟩
def clC (X:Cx)(sc:Scope)(C:Addr):List (Str×Addr):=cellsFrom (C+1) sc.names []++aR X.env sc.names []
theorem bH:∀(names:List (Str×NameKind)) (n:Nat) (acc:List (Str×Addr)),cellsFrom n names acc=cellsFrom n names []++acc
 | [],n,acc=>rfl
 | (name,kind) :: r,n,acc=>by
  unfold cellsFrom
  split
  ·rw[bH r (n+1) ((name,n) :: acc),bH r (n+1) [(name,n)],HB]
   rfl
  ·exact bH r n acc
theorem cp:∀(names:List (Str×NameKind)) (n:Nat) (y:Str) (c:Addr),(y,c)∈cellsFrom n names []->(y,NameKind.cell)∈names/\n<=c
 | [],n,y,c,h=>by cases h
 | (name,kind) :: r,n,y,c,h=>by
  unfold cellsFrom at h
  split at h
  ·rename_i hk
   rw[bH] at h
   rcases EU.mp h with z | z
   ·obtain ⟨a,b⟩:=cp r (n+1) y c z
    exact ⟨E8 _ a,by lia⟩
   ·rw[ED] at z
    cases z
    have:kind = .cell:=by simpa using hk
    subst this
    exact ⟨E7,EI _⟩
  ·obtain ⟨a,b⟩:=cp r n y c h
   exact ⟨E8 _ a,b⟩
theorem df:∀(names:List (Str×NameKind)) (n:Nat) (y:Str),(y,NameKind.cell)∈names->∃c,(y,c)∈cellsFrom n names []
 | [],n,y,h=>by cases h
 | (name,kind) :: r,n,y,h=>by
  unfold cellsFrom
  split
  ·rw[bH]
   rcases EW.mp h with z | z
   ·cases z
    exact ⟨n,E5 _ E7⟩
   ·obtain ⟨c,hc⟩:=df r (n+1) y z
    exact ⟨c,F6 _ hc⟩
  ·rename_i hk
   rcases EW.mp h with z | z
   ·cases z
    exact absurd rfl hk
   ·exact df r n y z
theorem eX {α:Type}:∀{l:List (Str×α)} {n:Str} {c:α},(n,c)∈l->∃c',l.lookup n=some c'
 | (k,v) :: r,n,c,h=>by
  rw[Hv]
  cases hb:n == k with
  | true=>exact ⟨v,rfl⟩
  | false =>
   rcases EW.mp h with z | z
   ·cases z
    rw[beq_self_eq_true] at hb;cases hb
   ·exact eX z
theorem jJ {α:Type}(l m:List (Str×α))(y:Str):(l++m).lookup y=(l.lookup y).or (m.lookup y):=by
 induction l with
 | nil=>rfl
 | cons x l ih =>
  rw[MH,Hv,Hv]
  cases y == x.1 with
  | true=>rfl
  | false=>exact ih
def dZ (X:Cx)(sc:Scope)(C:Addr)(N':List Str)(s:EG)(H:Hp)(fp:List Addr):Cx :=
 { X with N:=N',s₀:=s,H₀:=H,env:=compEnvC sc (clC X sc C) C X.env,outer:=X.stack,ex:=fp,fn:=λx=>decide (sc.names.lookup x=some .cell),pn:=[],xe:=λ_ _=>False }
theorem tX {X:Cx}{sc:Scope}{C:Addr}(hcl:∀y∈sc.names,y.2 = .free->∃c,X.env.cells.lookup y.1=some c){y:Str}{c:Addr}(h:(clC X sc C).lookup y=some c) :
  ((y,c)∈cellsFrom (C+1) sc.names []/\C<c)\/X.env.cells.lookup y=some c:=by
 unfold clC at h
 rw[jJ] at h
 cases hn:(cellsFrom (C+1) sc.names []).lookup y with
 | some d =>
  rw[hn] at h
  cases h
  have m:=GC hn
  exact .inl ⟨m,(cp _ _ _ _ m).2⟩
 | none =>
  rw[hn] at h
  rcases cn sc.names [] hcl h with q | q
  ·cases q
  ·exact .inr q
theorem rE {X:Cx}{sc:Scope}{C:Addr}{on:List (Str×NameKind)}{N N':List Str}{ix:List (Option Nat)}(K:ip on N sc N' ix){y:Str}(hy:sc.names.lookup y=some .free):(clC X sc C).lookup y=(aR X.env sc.names []).lookup y:=by
 unfold clC
 rw[jJ]
 cases hn:(cellsFrom (C+1) sc.names []).lookup y with
 | none=>rfl
 | some d =>
  have m:=(cp _ _ _ _ (GC hn)).1
  have:=K.cels _ m rfl
  rw[hy] at this
  cases this
theorem dC:∀(names:List (Str×NameKind)) (n:Nat),(cellsFrom n names []).Pairwise λx y=>x.2≠y.2
 | [],n=>List.Pairwise.nil
 | (name,kind) :: r,n=>by
  unfold cellsFrom
  split
  ·rw[bH,Lv]
   refine ⟨dC r (n+1),Kx _ _,λx hx y hy =>?_⟩
   rw[ED] at hy
   subst hy
   have:=(cp r (n+1) x.1 x.2 hx).2
   exact GZ this
  ·exact dC r n
theorem yP {X:Cx}{sc:Scope}{C:Addr}{y:Str}{c:Addr}(hy:sc.names.lookup y=some .cell)(h:(clC X sc C).lookup y=some c):C<c:=by
 obtain ⟨d,hd⟩:=df sc.names (C+1) y (dk hy)
 obtain ⟨e,he⟩:=eX hd
 unfold clC at h
 rw[jJ,he] at h
 cases h
 exact (cp _ _ _ _ (GC he)).2
section
variable  {X:Cx}{sc:Scope}{N':List Str}{ix:List (Option Nat)}{pins:List (Addr×Obj)}{σ:St}{H:Hp}{s:EG}
theorem A1 (I:Inv X pins σ H s)(K:ip X.env.scope.names X.N sc N' ix){C:Addr}{fp:List Addr}(hC:s.heap.objs.size<=C)(f:∀b∈fp,gs X pins H b)(fl:∀b∈fp,b<s.heap.objs.size) :
  (dZ X sc C N' s H fp).Ok:=by
 have hcl:∀y∈sc.names,y.2 = .free->∃c,X.env.cells.lookup y.1=some c:=λy hy e=>I.ok.has y.1 (.inl (K.frees y hy e))
 have up:∀y c,(clC X sc C).lookup y=some c->((y,c)∈cellsFrom (C+1) sc.names []/\C<c)\/X.env.cells.lookup y=some c:=λy c e=>tX hcl e
 have old:∀y c,X.env.cells.lookup y=some c->c<s.heap.objs.size:=λy c e=>by
  obtain ⟨v,q⟩:=I.cell y c e
  exact q.lt
 have nfs:∀b∈fp,b∉frs X.stack:=λb hb z=>by
  rcases EW.mp (I.j8 b z) with q | q
  ·exact (f b hb).2.1 q
  ·exact (f b hb).2.2.1 q
 refine ⟨I.ok.mod,K.kind,I.ok.glob,I.ok.blt,hC,λy z c h1 h2 =>?_,λy hy =>?_,λy c hf h =>?_,I.ok.hd,I.ok.frames,.inl rfl,λb hb =>?_,λb o e=>I.bs b o e,Ff I.ok.bsz I.sz,λb o e hb =>?_,nfs,I.stack,I.pO⟩
 ·rcases up _ _ h1 with ⟨a1,a2⟩ | a1 <;> rcases up _ _ h2 with ⟨b1,b2⟩ | b1
  ·exact PySem.name_of_addr (dC _ _) a1 b1
  ·exact absurd (EL (old _ _ b1) hC) (Nm.mpr (Gz a2))
  ·exact absurd (EL (old _ _ a1) hC) (Nm.mpr (Gz b2))
  ·exact I.ok.inj y z c a1 b1
 ·have hy':(relabel sc X.env).names.lookup y=some .cell\/(relabel sc X.env).names.lookup y=some .free:=hy
  have em:=gB (c:=λn k=>k == .free && X.env.scope.kind == .function && X.env.kindOf n == some .cell) (y:=y) sc.names
  have em':(relabel sc X.env).names.lookup y=_:=em
  rw[em'] at hy'
  cases hq:sc.names.lookup y with
  | none=>rw[hq] at hy';rcases hy' with q | q <;> cases q
  | some k =>
   have km:=dk hq
   have hk:k = .free\/k = .cell:=by
    rw[hq] at hy'
    simp only[Hq,Mi] at hy'
    by_cases hc:(k == .free && X.env.scope.kind == .function && X.env.kindOf y == some .cell)=true
    ·rw[Fh,Fh] at hc
     exact .inl (by simpa using hc.1.1)
    ·rw[if_neg hc] at hy'
     rcases hy' with q | q
     ·exact .inr q
     ·exact .inl q
   rcases hk with hk | hk
   ·subst hk
    obtain ⟨c,hc⟩:=cP (env:=X.env) sc.names [] (.inl km)
    exact ⟨c,(rE (C:=C) K hq).trans hc⟩
   ·subst hk
    obtain ⟨d,hd⟩:=df sc.names (C+1) y km
    obtain ⟨e,he⟩:=eX hd
    refine ⟨e,?_⟩
    show (clC X sc C).lookup y=some e
    unfold clC
    rw[jJ,he]
    rfl
 ·have hf':sc.names.lookup y=some .cell:=of_decide_eq_true hf
  exact Ff hC (Gz (yP hf' h))
 ·refine ⟨EY (EL (fl b hb) hC),λy c e =>?_⟩
  rcases up y c e with ⟨_,a⟩ | a
  ·exact GZ (EL (fl b hb) (Ff hC (Gz a)))
  ·exact (f b hb).2.2.2.2.1 y c a
 ·rcases (f b hb).2.2.2.1 with q | q
  ·exact I.ok.noex b o e q
  ·exact absurd (EL (EN e) (Ff I.ok.bsz q)) (Fl _)
theorem yQ (I:Inv X pins σ H s)(K:ip X.env.scope.names X.N sc N' ix){C:Addr}{fp:List Addr}(hC:s.heap.objs.size<=C)(f:∀b∈fp,gs X pins H b)(fl:∀b∈fp,b<s.heap.objs.size)
  {h1:Heap} {t:Nat} {m:Str->Option EB} (k:∀b o,s.heap.get? b=some o->h1.get? b=some o) (ns:h1.Ns C m) (nc:∀y c,(y,c)∈cellsFrom (C+1) sc.names []->h1.IsCell c none) :
  Inv (dZ X sc C N' s H fp) [] (inner ix σ) H { s with heap:=h1,toks:=t }:=by
 have hcl:∀y∈sc.names,y.2 = .free->∃c,X.env.cells.lookup y.1=some c:=λy hy e=>I.ok.has y.1 (.inl (K.frees y hy e))
 have up:∀y c,(clC X sc C).lookup y=some c->((y,c)∈cellsFrom (C+1) sc.names []/\C<c)\/X.env.cells.lookup y=some c:=λy c e=>tX hcl e
 refine ⟨A1 I K hC f fl,rfl,I.bare,Un.kept k,⟨m,ns,λi y v e1 e2 e3 =>?_⟩,λy c e =>?_,I.hok.fresh hC,λy c e =>?_,(λp hp=>nomatch hp),I.hok.kept k,?_⟩
 ·have e2':(ix.map λo=>match o with | none=>none | some j=>(σ[j]?).join)[i]? = some (some v):=e2
  rw[ET] at e2'
  cases hi:ix[i]? with
  | none=>rw[hi] at e2';cases e2'
  | some o =>
   cases o with
   | none=>rw[hi] at e2';cases e2'
   | some j =>
    rw[hi] at e2'
    have e4:(σ[j]?).join=some v:=EX e2'
    have e5:σ[j]? = some (some v):=by
     cases hj:σ[j]? with
     | none=>rw[hj] at e4;cases e4
     | some z=>rw[hj] at e4;rw[show z=some v from e4]
    obtain ⟨n1,n2⟩:=K.slot i j y hi e1
    have mem:=dk n2
    have kc:X.env.kindOf y=some .cell:=K.frees _ mem rfl
    obtain ⟨m',_,hl⟩:=I.loc
    obtain ⟨u,r,l⟩:=hl j y v n1 e5 (.inr (.inl kc))
    refine ⟨u,r,?_⟩
    rcases l with ⟨q,_⟩ | ⟨_,c,q,z⟩
    ·rw[kc] at q;cases q
    ·obtain ⟨c',hc'⟩:=cP (env:=X.env) (y:=y) sc.names [] (.inl mem)
     have hc2:(clC X sc C).lookup y=some c':=(rE (C:=C) K n2).trans hc'
     have:X.env.cells.lookup y=some c':=by
      rcases cn sc.names [] hcl hc' with w | w
      ·cases w
      ·exact w
     rw[q] at this
     cases this
     refine .inr ⟨?_,c,hc2,z.keeps k⟩
     left
     show (relabel sc X.env).names.lookup y=some .cell
     have em:=gB (c:=λn k=>k == .free && X.env.scope.kind == .function && X.env.kindOf n == some .cell) (y:=y) sc.names
     have em':(relabel sc X.env).names.lookup y=_:=em
     rw[em',n2]
     simp only[Hq,kc,I.ok.kind]
     rfl
 ·rcases up y c e with ⟨a,_⟩ | a
  ·exact ⟨none,nc y c a⟩
  ·obtain ⟨v,z⟩:=I.cell y c a
   exact ⟨v,z.keeps k⟩
 ·rcases up y c e with ⟨_,a⟩ | a
  ·exact I.hok.fresh (Ff hC (Gz a))
  ·exact I.freeC y c a
 ·show (ix.map _).length=N'.length
  rw[Ex]
  exact K.len
end
theorem pZ {M:Model}{A:FN}{E:EB->EG->Prop}{s:EG}{scope:Scope}{globals:Addr}{closure:List (Str×Addr)}{qual:Str}{outer:Env}{Q:Env->EG->Prop}
  (hQ:Q (newEnv scope s.heap.objs.size globals (cellsFrom (s.heap.objs.size+1) scope.names closure) qual none .none (some outer) builtinsNs) { s with heap:=pushCells (s.heap.push { cls :=.type "dict",data :=.dict #[] }) scope.names }) :
  E4 M A (newFunctionEnv scope globals closure [] qual none .none (some outer)) Q E s:=by
 simp only[newFunctionEnv,LX,if_true]
 refine Ew (wpAny_alloc ?_)
 refine Ew (wpAny_layCells _ (λname kind cells=>by cases hkc:kind == NameKind.cell <;> simp[hkc]) _ _ _ _ ?_)
 rw[show ({ s with heap:=s.heap.push { cls :=.type "dict",data :=.dict #[] } }:EG).heap.objs.size=s.heap.objs.size+1 from FK ..]
 rw[LG]
 exact Ew (EC (EC hQ))
section
variable  {X:Cx}
theorem tZ {elt target iter:Expr}{ifs:List Expr}{sc:Scope}{pos ps:Pos}{wi:TI}{g:TG}{tc:TT}{te:TE}{N':List Str}{ix:List (Option Nat)}{use:Option (EB->Sem Unit)}{Q2:EB->EG->Prop}
  {pins:List (Addr×Obj)} {s:EG} {σ:St} {H:Hp} {Q:VK}
  (hcalm:X.calm=true) (hi:PI X target iter wi) (hk:pX X.env.scope.names X.N sc N' ix=true)
  (hg:∀C s H fp,PG (dZ X sc C N' s H fp) target g) (hc:∀C s H fp,PF (dZ X sc C N' s H fp) ifs tc) (he:∀C s H fp,PE (dZ X sc C N' s H fp) elt te)
  (hs:∀x,foldedSetIterable iter X.env x=pure x) (fin:vg X pins σ Q use Q2) (I:Inv X pins σ H s) (h:rD ix wi g tc te σ H Q) :
  E4 (Fq X.prog X.w) X.A (comprehension (.ListComp elt [⟨target,iter,ifs,0⟩] sc pos) sc X.env ps (newList []) false (eval iter X.env) use) Q2 X.xe s:=by
 have K:=ip.of hk
 have hcl:∀y∈sc.names,y.2 = .free->∃c,X.env.cells.lookup y.1=some c:=λy hy e=>I.ok.has y.1 (.inl (K.frees y hy e))
 refine Ku rfl hs (mO hcl) K.kind K.locs (thn (hi pins s σ H _ I h) λv s1 h1=>thn h1 λitv s2 h2 =>?_)
 obtain ⟨it,fp,tn,J,H2,e,I2,T,st2,f2,W,⟨m0,w0⟩,turn⟩:=h2
 subst e
 refine Ft (pZ ?_)
 dsimp only
 generalize hP:s2.heap.push { cls :=.type "list",dict:=none,data :=.seq ([]:List EB).toArray }=G
 have sG:G.objs.size=s2.heap.objs.size+1:=by rw[<- hP,FK]
 have sGp:(G.push { cls :=.type "dict",data :=.dict #[] }).objs.size=G.objs.size+1:=FK _ _
 have ns1:(pushCells (G.push { cls :=.type "dict",data :=.dict #[] }) sc.names).Ns G.objs.size (λ_=>none):=(Heap.Ns.new G (.type "dict")).keeps (pushCells_keeps _ _)
 have nc1:∀y c,(y,c)∈cellsFrom (G.objs.size+1) sc.names []->(pushCells (G.push { cls :=.type "dict",data :=.dict #[] }) sc.names).IsCell c none:=λy c hm=>by
  have ok:=cellsFrom_ok sc.names (G.push { cls :=.type "dict",data :=.dict #[] }) (G.objs.size+1) [] ⟨λ_ _ hm=>(nomatch hm),List.Pairwise.nil⟩ (by rw[sGp];exact EI _)
  rw[sGp] at ok
  exact (ok.empty y c hm).1
 have ce:cellsFrom (G.objs.size+1) sc.names (aR X.env sc.names [])=clC X sc G.objs.size:=bH _ _ _
 rw[ce]
 have oldG:∀b o,G.get? b=some o->(pushCells (G.push { cls :=.type "dict",data :=.dict #[] }) sc.names).get? b=some o:=λb o e=>pushCells_keeps _ _ _ _ (Ey _ e)
 generalize pushCells (G.push { cls :=.type "dict",data :=.dict #[] }) sc.names=h1 at ns1 nc1 oldG
 have fl:∀b∈fp,b<s2.heap.objs.size:=λb hb=>by
  obtain ⟨o,e,_⟩:=T.obj _ _ st2 b hb
  exact EN e
 have hC:s2.heap.objs.size<=G.objs.size:=by rw[sG];exact JU _
 have aC:s2.heap.objs.size≠G.objs.size:=by rw[sG];exact EY (F8 _)
 have old:∀b o,s2.heap.get? b=some o->h1.get? b=some o:=λb o e=>oldG b o (hP ▸ Ey _ e)
 have accO:h1.PlainList s2.heap.objs.size #[]:=⟨_,oldG _ _ (hP ▸ EK _ rfl)⟩
 have IB:=yQ (t:=s2.toks) I2 K hC f2 fl old ns1 nc1
 have up:∀y c,(clC X sc G.objs.size).lookup y=some c->((y,c)∈cellsFrom (G.objs.size+1) sc.names []/\G.objs.size<c)\/X.env.cells.lookup y=some c:=λy c e=>tX hcl e
 have accNotCell:∀y c,(clC X sc G.objs.size).lookup y=some c->c≠s2.heap.objs.size:=λy c e z=>by
  rcases up y c e with ⟨_,a⟩ | a
  ·rw[z] at a
   exact absurd (Fb hC a) (Fl _)
  ·obtain ⟨v,q⟩:=I2.cell y c a
   exact absurd q.lt (by rw[z];exact Fl _)
 have accFs:s2.heap.objs.size∉frs X.stack:=λz=>by
  rcases EW.mp (I2.j8 _ z) with q | q
  ·exact absurd I2.lt (by rw[<- q];exact Fl _)
  ·exact I2.yt (EI _) q
 have accFp:s2.heap.objs.size∉fp:=λz=>absurd (fl _ z) (Fl _)
 have stat:∀{H':Hp} {ob:Obj},(∀b∈fp,H' b=none)->∀b∈fp,gs (dZ X sc G.objs.size N' s2 H2 fp) [(s2.heap.objs.size,ob)] H' b:=λ{H' ob} hn b hb=>by
  refine ⟨hn b hb,EY (EL (fl b hb) hC),IB.ok.exfs b hb,.inl hb,λy c e=>(up y c e).elim (λa=>GZ (EL (fl b hb) (Ff hC (Gz a.2)))) λa=>(f2 b hb).2.2.2.2.1 y c a,λp hp z =>?_⟩
  have ep:p=(s2.heap.objs.size,ob):=by simpa [dZ] using hp
  subst ep
  exact accFp (by rw[show s2.heap.objs.size=b from z];exact hb)
 have accPin:∀{pl:List (Addr×Obj)} {σ':St} {H':Hp} {s':EG} {its:Array EB} {n:Nat},Inv (dZ X sc G.objs.size N' s2 H2 fp) pl σ' H' s'->s'.heap.get? s2.heap.objs.size=some { cls :=.type "list",data :=.seq its n } →
   H' s2.heap.objs.size=none->Inv (dZ X sc G.objs.size N' s2 H2 fp) [(s2.heap.objs.size,{ cls :=.type "list",data :=.seq its n })] σ' H' s':=λ{pl σ' H' s' its n} J' e nn=>J'.d9 λp hp=>by
  have ep:p=(s2.heap.objs.size,({ cls :=.type "list",data :=.seq its n }:Obj)):=by simpa [dZ] using hp
  subst ep
  exact ⟨e,nn,aC,accFs,λv z=>nomatch z⟩
 have loop:IW (Fq X.prog X.w) X.A (.compLoop (.ListComp elt [⟨target,iter,ifs,0⟩] sc pos) 0 (.ref it) (.ref s2.heap.objs.size) (compEnvC sc (clC X sc G.objs.size) G.objs.size X.env))
   (compPost (Fq X.prog X.w) X.A X.xe use Q2 (.ref s2.heap.objs.size) G.objs.size) { s2 with heap:=h1 }:=by
  refine mP (λn s'=>∃i ys its nn σ' H',Inv (dZ X sc G.objs.size N' s2 H2 fp) [(s2.heap.objs.size,{ cls :=.type "list",data :=.seq its nn })] σ' H' s'/\Vals ys its.toList/\tn i s'.heap/\(∀b∈fp,H' b=none)/\W i n σ' ys H')
   (λn s3 h3 =>?_) m0 ?_
  ·obtain ⟨i,ys,its,nn,σ3,H3,I3,r3,st3,fr3,w3⟩:=h3
   obtain ⟨e3,a3,_,_,_⟩:=I3.pin (s2.heap.objs.size,{ cls :=.type "list",data :=.seq its nn }) (by simp[dZ])
   rcases turn i n σ3 ys H3 w3 with ⟨stop,zl,q3⟩ | ⟨go,step⟩
   ·refine thn (T.done (dZ X sc G.objs.size N' s2 H2 fp) rfl rfl rfl hcalm i _ s3 σ3 H3 _ I3 (stat fr3) st3 stop) λr s4 ⟨hr,I4⟩ =>?_
    subst hr
    obtain ⟨e4,a4,_,_,_⟩:=I4.pin (s2.heap.objs.size,{ cls :=.type "list",data :=.seq its nn }) (by simp[dZ])
    obtain ⟨m4,n4,_⟩:=I4.loc
    obtain ⟨oC,es4,ep4,c4,d4,r4⟩:=id n4
    have ltA:∀b o,s2.heap.get? b=some o->b≠s2.heap.objs.size:=λb o e=>EY (EN e)
    have B:=I4.base
    have hok:HOk X.prog X.w (upd H3 s2.heap.objs.size (.lst ys)) s4.heap:=λb o e=>by
     by_cases hb:b=s2.heap.objs.size
     ·subst hb
      rw[ai] at e
      cases e
      exact ⟨zl,its.toList,nn,r3,e4⟩
     ·rw[aH hb] at e
      refine (I4.hok b o e).stay (λc u hc q=>q) (λc q =>?_) (λc xs q =>?_)
      ·rw[aH (aJ q a4)];exact q
      ·rw[aH (aJ q a4)];exact q
    have I5:Inv X pins σ (upd H3 s2.heap.objs.size (.lst ys)) s4:=by
     refine I2.BY (ch:=fp) I4.os ⟨λb o e n hb hx=>B.keep b o e n hb hx,λb o e n hb hx=>B.slot b o e n hb hx,λb o e n hx =>?_,λb o e hx=>B.there b o e hx,λb xs e =>?_,λb o u e =>?_,λb ps e =>?_⟩ hok I4.bare (λb hb =>?_)
     ·rw[aH (ltA b o e)];exact B.free b o e n hx
     ·have q:=B.tups b xs e
      rw[aH (aJ q a4)];exact q
     ·have q:=B.frzs b o u e
      rw[aH (aJ q a4)];exact q
     ·obtain ⟨more,q⟩:=B.tbls b ps e
      exact ⟨more,by rw[aH (aJ q a4)];exact q⟩
     ·obtain ⟨g0,g1,g2,g3,g4,g5⟩:=f2 b hb
      exact ⟨g3,g1,g4,g5⟩
    have cL:G.objs.size≠X.env.locals:=GZ (EL I2.lt hC)
    have I6:Inv X (pins++[(G.objs.size,oC)]) σ (upd H3 s2.heap.objs.size (.lst ys)) s4:=I5.d9 λp hp=>by
     rcases EU.mp hp with q | q
     ·exact I5.pin p (E5 _ q)
     ·have ep:p=(G.objs.size,oC):=by simpa using q
      subst ep
      exact ⟨c4,by rw[aH (Gn aC)];exact I4.free,cL,I2.yt hC,λv z=>by rw[d4] at z;cases z⟩
    refine fin s4 H3 s2.heap.objs.size G.objs.size ys oC I6 ⟨m4,n4⟩ (Ff I2.sz hC) (λy c e z =>?_) (λp hp z =>?_) (q3 _ a4)
    ·obtain ⟨v,q⟩:=I2.cell y c e
     exact absurd (EL q.lt hC) (by rw[z];exact Fl _)
    ·exact absurd (EL (EN (I2.pin p hp).1) hC) (by rw[z];exact Fl _)
   ·refine thn (T.item (dZ X sc G.objs.size N' s2 H2 fp) rfl rfl rfl hcalm i _ s3 σ3 H3 _ I3 (stat fr3) st3 go) λr s4 ⟨u,hr,h4⟩ =>?_
    subst hr
    refine thn h4 λ_ s5 ⟨x,H5,I5,r5,y5,st5,fr5⟩ =>?_
    have I5':=I5.pinned (stat fr5) (T.obj _ _ st5)
    refine thn (hg _ _ _ _ _ s5 σ3 H5 x u _ I5' r5 (step x H5 y5)) λ_ s6 ⟨σ6,H6,I6,q6⟩ =>?_
    refine thn (hc _ _ _ _ _ s6 σ6 H6 _ I6 q6) λok s7 ⟨H7,I7,q7⟩ =>?_
    have back:∀{σ7:St} {H7:Hp} {s7:EG},Inv (dZ X sc G.objs.size N' s2 H2 fp) ([(s2.heap.objs.size,{ cls :=.type "list",data :=.seq its nn })]++eS fp s5.heap) σ7 H7 s7->tn (i+1) s7.heap/\∀b∈fp,H7 b=none:=λJ7 =>
     ⟨T.keep _ _ _ st5 λb hb o e=>(J7.pin (b,o) (E5 _ (E5 _ (bZ hb e)))).1,λb hb=>by
      obtain ⟨o,e,d⟩:=T.obj _ _ st5 b hb
      exact (J7.pin (b,o) (E5 _ (E5 _ (bZ hb e)))).2.1⟩
    cases ok with
    | false =>
     rw[if_neg (by decide)] at q7
     obtain ⟨m',lm,w7⟩:=q7
     show ∃m,m<n/\_
     exact ⟨m',lm,i+1,ys,its,nn,σ6,H7,I7.dj,r3,(back I7).1,(back I7).2,w7⟩
    | true =>
     rw[if_pos rfl] at q7
     refine thn (he _ _ _ _ _ s7 σ6 H7 _ I7 q7) λz s8 ⟨y,H8,I8,r8,lz,m',lm,w8⟩ =>?_
     obtain ⟨e8,a8,_,_,_⟩:=I8.pin (s2.heap.objs.size,{ cls :=.type "list",data :=.seq its nn }) (by simp[dZ])
     have sz:its.size<=ES:=by
      have l:ys.length=its.size:=r3.length.trans E3
      rw[<- l]
      exact Gz lz
     refine KJ ⟨nn,e8⟩ (λh' pl' sb' =>?_) sz
     obtain ⟨n9,e9⟩:=pl'
     have I8p:Inv (dZ X sc G.objs.size N' s2 H2 fp) (eS fp s5.heap) σ6 H8 s8:=I8.d9 λp hp=>I8.pin p (E5 _ (E5 _ hp))
     have I9:=I8p.turned (it:=s2.heap.objs.size) (h':=h') (t':=s8.toks) (λb o ne e=>by rw[sb'.2 b ne];exact e) a8 aC (.inr (EI _)) (λy c e=>accNotCell y c e) (λp hp z=>by
      have hp':p∈eS fp s5.heap:=by simpa [dZ] using hp
      exact accFp (by rw[<- z];exact (kj hp').1))
     have b9:tn (i+1) h'/\∀b∈fp,H8 b=none :=
      ⟨T.keep _ _ _ st5 λb hb o e=>(I9.pin (b,o) (E5 _ (bZ hb e))).1,(back I8).2⟩
     exact ⟨m',lm,i+1,ys++[y],its.push z,n9,σ6,H8,accPin I9 e9 a8,by rw[Jo];exact r3.append (.cons r8 .nil),b9.1,b9.2,w8⟩
  ·obtain ⟨n0,e0⟩:=accO
   exact ⟨0,[], #[],n0,_,H2,accPin IB e0 (I2.hok.fresh (EI _)),.nil,T.keep _ _ _ st2 λb hb o e=>old b o e,λb hb=>(f2 b hb).1,w0⟩
 exact K5 loop (T.self _ 0 _ _ _ (T.keep _ _ _ st2 λb hb o e=>old b o e) loop)
theorem yR {elt target iter:Expr}{ifs:List Expr}{sc:Scope}{pos:Pos}{wi:TI}{g:TG}{tc:TT}{te:TE}(N':List Str)(ix:List (Option Nat))
  (hcalm:X.calm=true) (hi:PI X target iter wi) (hk:pX X.env.scope.names X.N sc N' ix=true)
  (hg:∀C s H fp,PG (dZ X sc C N' s H fp) target g) (hc:∀C s H fp,PF (dZ X sc C N' s H fp) ifs tc) (he:∀C s H fp,PE (dZ X sc C N' s H fp) elt te)
  (hs:∀x,foldedSetIterable iter X.env x=pure x:=by intro _;rfl):PE X (.ListComp elt [⟨target,iter,ifs,0⟩] sc pos) (rD ix wi g tc te):=by
 intro pins s σ H Q I h
 rw[eval_ListComp]
 refine tZ hcalm hi hk hg hc he hs (λs4 H3 acc C ys oC I4 ns hC hc hp q =>?_) I h
 obtain ⟨m,ns⟩:=ns
 refine ⟨m,ns,λh' sb=>⟨.ref acc,_,?_,rfl,q⟩⟩
 obtain ⟨_,n0,n1,n2,_⟩:=I4.pin (C,oC) (by simp)
 exact (I4.dj).turned (it:=C) (h':=h') (t':=s4.toks) (λb o ne e=>by rw[sb.2 b ne];exact e) n0 n1 (.inr hC) hc hp
end
section
variable  {X:Cx}
def DP (K:Ez):R2:=λx y H Q=>∃l b xs zs,x = .ref l/\y = .ref b/\SqL K H l xs/\SqL K H b zs/\xs.length+zs.length<=ES/\∀p,H p=none->Q (.ref p) (upd H p (.lst (xs++zs)))
theorem p9:OpR X (binaryOp .Add) (DP X.K):=by
 intro pins s σ H x y v u Q I rx ry h
 obtain ⟨l,b,xs,zs,rfl,rfl,hH,hB,hz,q⟩:=h
 cases rx
 cases ry
 obtain ⟨its,r,e,z⟩:=I.list hH
 obtain ⟨its2,r2,e2,z2⟩:=I.list hB
 obtain ⟨⟨c1,d1,da1,sl1⟩,n,e,k1,k2,k3⟩:=e
 obtain ⟨⟨c2,d2,da2,sl2⟩,n2,e2,g1,g2,g3⟩:=e2
 simp only at k1 k3 g1 g3
 subst k1 k3 g1 g3
 have l1:=r.length
 have l2:=r2.length
 have ea:its.toArray++its2.toArray=(its++its2).toArray:=by simp
 refine Li ⟨_,e,rfl⟩ ⟨_,e2,rfl⟩ noFill_list_add seq_list_add PySem.F.slot_list_add PySem.F.entry_list_add
  (PySem.F.args_list_add_2 _ _) (list_addW l b its.toArray its2.toArray n n2 d1 d2 sl1 sl2 (by rw[EM,EM];omega)) ⟨e,e2,?_⟩
 rw[ea]
 exact ⟨.ref _,_,I.DO (t':=s.toks) (r.append r2) (by rw[EE];omega),rfl,q _ I.fresh⟩
theorem lI:bD X (.builtin "isinstance") (λxs H Q=>∃x T t b,xs=[x,.ty T]/\kr X.K H x t/\PySem.W.kitOne X.K t (.type T)=some b/\Q (.bl b) H):=by
 intro pins s σ H xs us Q I r h
 obtain ⟨x,T,t,b,rfl,ty,e,q⟩:=h
 obtain ⟨u,w',rfl,ru,rw'⟩:=vals2 r
 cases (show w'=Hk T from rw')
 exact wV I ru ty e λtk=>⟨.bl b,H,I.tok tk,rfl,q⟩
end
def yS (k:Nat)(tc:TT)(te:TE)(τ:St)(Pv:Nat->List V->Hp->Prop)(i:Nat)(x:V)(ys:List V)(H:Hp):Prop :=
 ∀(R1:V->Hp->Prop) (R0:Hp->Prop),(∀y H4,Pv (i+1) (ys++[y]) H4->R1 y H4)->(∀H3,Pv (i+1) ys H3->R0 H3)->tc (τ.set k (some x)) H λb H3=>if b=true then te (τ.set k (some x)) H3 R1 else R0 H3
theorem bx {K:Ez}{a:Addr}{xs:List V}{k:Nat}{tc:TT}{te:TE}{τ:St}{H:Hp}{Q:VK}(Pv:Nat->List V->Hp->Prop)(h0:Pv 0 [] H)(hz:xs.length<=ES)
  (hl:∀i ys H,i<=xs.length->Pv i ys H->SqL K H a xs) (hs:∀i x ys H,xs[i]? = some x->ys.length<=i->Pv i ys H->yS k tc te τ Pv i x ys H)
  (hd:∀ys H,ys.length<=xs.length->Pv xs.length ys H->∀l,H l=none->Q (.ref l) (upd H l (.lst ys))) :
  rC (Itl K a) (jC k) tc te τ Q H:=by
 refine ⟨λi m σ ys H=>m=xs.length-i/\i<=xs.length/\(∀x,σ.set k (some x)=τ.set k (some x))/\ys.length<=i/\Pv i ys H,⟨xs.length,by simp,FE _,λ_=>rfl,EI _,h0⟩,?_⟩
 rintro i m σ ys H ⟨rfl,hi,hτ,hy,p⟩
 have q:=hl i ys H hi p
 by_cases hlt:i<xs.length
 ·refine .inr ⟨⟨xs,xs[i],q,by simp[hlt]⟩,λx H' y =>?_⟩
  obtain ⟨e,y⟩:=y
  subst e
  show tc (σ.set k (some x)) _ _
  rw[hτ x]
  have hσ:∀z,(τ.set k (some x)).set k (some z)=τ.set k (some z):=λz=>by rw[Kc]
  refine hs i x ys _ (y xs q) hy p _ _ (λy4 H4 p4=>⟨by lia,xs.length-(i+1),by lia,rfl,hlt,hσ,by rw[EE,Gh];lia,p4⟩) λH3 p3=>⟨xs.length-(i+1),by lia,rfl,hlt,hσ,by lia,p3⟩
 ·have e:i=xs.length:=by lia
  subst e
  exact .inl ⟨⟨xs,q,EI _⟩,by lia,hd ys H hy p⟩
theorem dI {K:Ez}{a:Addr}{xs:List V}{k:Nat}{tc:TT}{te:TE}{τ:St}{H:Hp}{Q:VK}(Pv:Nat->List V->Hp->Prop)(h0:Pv 0 [] H)(hz:xs.length<=ES)
  (hl:∀i ys H,i<=xs.length->Pv i ys H->SqT K H a xs) (hs:∀i x ys H,xs[i]? = some x->ys.length<=i->Pv i ys H->yS k tc te τ Pv i x ys H)
  (hd:∀ys H,ys.length<=xs.length->Pv xs.length ys H->∀l,H l=none->Q (.ref l) (upd H l (.lst ys))) :
  rC (Itt K a) (jC k) tc te τ Q H:=by
 refine ⟨λi m σ ys H=>m=xs.length-i/\i<=xs.length/\(∀x,σ.set k (some x)=τ.set k (some x))/\ys.length<=i/\Pv i ys H,⟨xs.length,by simp,FE _,λ_=>rfl,EI _,h0⟩,?_⟩
 rintro i m σ ys H ⟨rfl,hi,hτ,hy,p⟩
 have q:=hl i ys H hi p
 by_cases hlt:i<xs.length
 ·refine .inr ⟨⟨xs,xs[i],q,by simp[hlt]⟩,λx H' y =>?_⟩
  obtain ⟨e,y⟩:=y
  subst e
  show tc (σ.set k (some x)) _ _
  rw[hτ x]
  have hσ:∀z,(τ.set k (some x)).set k (some z)=τ.set k (some z):=λz=>by rw[Kc]
  refine hs i x ys _ (y xs q) hy p _ _ (λy4 H4 p4=>⟨by lia,xs.length-(i+1),by lia,rfl,hlt,hσ,by rw[EE,Gh];lia,p4⟩) λH3 p3=>⟨xs.length-(i+1),by lia,rfl,hlt,hσ,by lia,p3⟩
 ·have e:i=xs.length:=by lia
  subst e
  exact .inl ⟨⟨xs,q,EI _⟩,by lia,hd ys H hy p⟩
theorem bE {lo:Int}{n:Nat}{k:Nat}{tc:TT}{te:TE}{τ:St}{H:Hp}{Q:VK}(Pv:Nat->List V->Hp->Prop)(h0:Pv 0 [] H)(hz:n<=ES)
  (hs:∀i ys H,i<n->ys.length<=i->Pv i ys H->yS k tc te τ Pv i (.int (lo+i)) ys H)
  (hd:∀ys H,ys.length<=n->Pv n ys H->∀l,H l=none->Q (.ref l) (upd H l (.lst ys))) :
  rC (Itr lo n) (jC k) tc te τ Q H:=by
 refine ⟨λi m σ ys H=>m=n-i/\i<=n/\(∀x,σ.set k (some x)=τ.set k (some x))/\ys.length<=i/\Pv i ys H,⟨n,by simp,FE _,λ_=>rfl,EI _,h0⟩,?_⟩
 rintro i m σ ys H ⟨rfl,hi,hτ,hy,p⟩
 by_cases hlt:i<n
 ·refine .inr ⟨hlt,λx H' y =>?_⟩
  obtain ⟨e,y⟩:=y
  subst e y
  show tc (σ.set k (some (.int (lo+i)))) _ _
  rw[hτ]
  have hσ:∀z,(τ.set k (some (.int (lo+i)))).set k (some z)=τ.set k (some z):=λz=>by rw[Kc]
  refine hs i ys _ hlt hy p _ _ (λy4 H4 p4=>⟨by lia,n-(i+1),by lia,rfl,hlt,hσ,by rw[EE,Gh];lia,p4⟩) λH3 p3=>⟨n-(i+1),by lia,rfl,hlt,hσ,by lia,p3⟩
 ·have e:i=n:=by lia
  subst e
  exact .inl ⟨EI _,by lia,hd ys H hy p⟩
structure Cal (P:EV)(w:Fm)(K:Ez)(mg:Str->Option EB)(base:Heap)(k:Nat)(x:Str)(ps:List Str)(sp:Sp):Prop where
 ex:∃f fd,aV P w K mg base CX0 k f fd ps sp/\mg x=some (.ref f)/\PySem.W.keepIn K (.ref f)=true/\Binds K fd ps []
theorem ay {X:Cx}{j k:Nat}{x:Str}{ps:List Str}{sp:Sp}{e:Expr}{es:List Expr}{t:TA}{p pos:Pos}(C:Cal X.prog X.w X.K X.mg X.base k x ps sp)(hr:dB j X.A)(hj:k<=j)(hg:Gl X x)(ha:PA X (e :: es) t)
  (hdb:(x == ("__debug__" : Str))=false:=by decide) (he:FT (e :: es) X.env=(false,eval e X.env) :: FT es X.env:=by rfl) (hpl:(Jn pos (FT es X.env)).any (·.1)=false:=by rfl) :
  PE X (.Call (.Name x p) (e :: es) [] pos) (yI sp [] E0 t):=by
 obtain ⟨f,fd,F,m,kp,b⟩:=C.ex
 exact vc F (hr.mono hj) hg m kp b .nil B4 ha hdb he hpl
theorem ak {H:Hp}{p:Addr}(h:H p=none)(o:HO):az H (upd H p o):=λb u q=>by rw[aH (aJ q h)];exact q
theorem nwZ {H:Hp}{x:Addr}(h:H x=none)(o:HO):∃ H',upd H x o=H'∧az H H'∧H' x=some o:=⟨_,rfl,ak h o,ai⟩
theorem small {n:Nat}(h:n<=1000):n<=ES:=Gz (ik h)
section
variable  {X:Cx}
theorem lJ {its:List EB}{bs:List Bool}(h:Vals (bs.map V.bl) its){prog:EV}{w:Fm}{A:FN}:TruthOf prog w A (λi v=>its.toArray[i]? = some v) (λi=>bs.getD i false):=by
 intro i v s Q E hv q
 have l:=h.length
 rw[Ex] at l
 have hi:i<its.length:=by
  rw[Fj] at hv
  exact (EJ.mp hv).1
 have e:(bs.map V.bl)[i]? = some (.bl (bs.getD i false)):=by
  rw[ET,EF,EA (by lia)]
  rfl
 obtain ⟨u,e1,e2⟩:=h.get e
 rw[Fj,e1] at hv
 have ev:u=v:=EX hv
 subst ev
 cases (show u=Value.bool _ from e2)
 exact Gg q
theorem all_range (bs:List Bool):((FP bs.length).all λi=>bs.getD i false)=bs.all id:=by
 rw[Hm,GI,GI]
 constructor
 ·intro h x hx
  obtain ⟨i,e⟩:=Hr.mp hx
  have hi:i<bs.length:=(EJ.mp e).1
  have q:=h i (FJ.mpr hi)
  rw[EF,e] at q
  exact q
 ·intro h i hi
  have hi':=FJ.mp hi
  rw[EF,EA hi']
  exact h _ (GJ hi')
theorem mQ (hc:X.calm=true):bD X (.builtin "all") (λxs H Q=>∃(p:Addr) (bs:List Bool),xs=[.ref p]/\SqL X.K H p (bs.map V.bl)/\Q (.bl (bs.all id)) H):=by
 intro pins s σ H xs us Q I r h
 obtain ⟨p,bs,rfl,hs,q⟩:=h
 obtain ⟨u,rfl,ru⟩:=vals1 r
 cases (show u=E2 p from ru)
 obtain ⟨its,rv,pl,hz⟩:=I.list hs
 have l:=rv.length
 rw[Ex] at l
 have hpl:p<s.heap.objs.size:=by obtain ⟨o,_,e,_⟩:=pl;exact EN e
 refine call_all_walk (Hi pl.isList ?_)
 have hd:X.A.in1.handled=none:=I.ok.hd hc
 refine ⟨s.heap.objs.size,_,_,_,_,_,_,rfl,Lo hd s.heap.objs.size p (EY hpl) its.toArray,⟨⟨_,EK _ rfl,rfl,rfl⟩,?_⟩,lJ rv,λh' tk k =>?_⟩
 ·exact pl.isList.at λo e=>Ey _ e
 ·have e:((FP its.toArray.size).all λi=>bs.getD i false)=bs.all id:=by rw[EM, <- l,all_range]
  rw[e]
  refine ⟨.bl (bs.all id),H,I.kept (t':=tk) (λb o eb=>k b o ?_ (Ey _ eb)),rfl,q⟩
  intro hb
  have:b=s.heap.objs.size:=by simpa using hb
  exact absurd (EN eb) (by rw[this];exact Fl _)
end
def B6 (K:Ez)(k l:Nat):TG:=DA K 2 (yx (jC k) (yx (jC l) Dz))
def DQ (k l:Nat)(tc:TT)(te:TE)(τ:St)(Pv:Nat->List V->Hp->Prop)(i:Nat)(a b:V)(ys:List V)(H:Hp):Prop :=
 ∀(R1:V->Hp->Prop) (R0:Hp->Prop),(∀y H4,Pv (i+1) (ys++[y]) H4->R1 y H4)->(∀H3,Pv (i+1) ys H3->R0 H3)->tc ((τ.set k (some a)).set l (some b)) H λc H3=>if c=true then te ((τ.set k (some a)).set l (some b)) H3 R1 else R0 H3
section
variable  {X:Cx}{K:Ez}
theorem dP (h:X.K=K:=by rfl):IxR X (DK K):=by subst h;exact bz
theorem dh (h:X.K=K:=by rfl):IxR X (DL K):=by subst h;exact av
theorem t6 (h:X.K=K:=by rfl):OpR X (Gw .In) (rIn K false):=by subst h;exact ij
theorem iq (h:X.K=K:=by rfl):OpR X (Gw .NotIn) (rIn K true):=by subst h;exact pU
end
theorem Inv.i4 {X:Cx}{pins:List (Addr×Obj)}{σ:St}{H:Hp}{s:EG}{h':Heap}{t':Nat}{ch:List Addr}{T:Addr}{o:HO}(I:Inv X pins σ H s)(f:∀b∈ch,gs X pins H b)
  (k:∀b ob,b∉ch->s.heap.get? b=some ob->h'.get? b=some ob) (th:∀b∈ch,∃ob,h'.get? b=some ob) (hT:s.heap.objs.size<=T) (new:ba X.prog X.w (upd H T o) h' T o):Inv X pins σ (upd H T o) { s with heap:=h',toks:=t' }:=by
 have hn:H T=none:=I.hok.fresh hT
 have nT:∀b ob,s.heap.get? b=some ob->b≠T:=λb ob e=>EY (EL (EN e) hT)
 refine I.step (g':=s.gens) (d':=s.drawn) (ch:=ch) (λb hb =>?_) (λb ob _ _ hc e _=>k b ob hc e) (λb ob _ _ hc e _=>⟨ob.slots,k b ob hc e⟩) (λb ob _ e n=>by rw[aH (nT b ob e)];exact n)
  (λb ob hc e=>⟨ob,k b ob hc e⟩) (λb xs e=>by rw[aH (aJ e hn)];exact e) (λb ob u e=>by rw[aH (aJ e hn)];exact e) (λb ps e=>⟨#[],by rw[aH (aJ e hn),e];simp⟩) (λm hm =>?_) (λb u e =>?_) I.bare
 ·obtain ⟨g0,g1,g2,g3,g4,g5⟩:=f b hb
  exact ⟨g3,g1,g4,g5⟩
 ·obtain ⟨ob,es,ep,ho,r⟩:=hm
  exact ⟨ob,es,ep,k _ ob (λz=>(f _ z).2.1 rfl) ho,r⟩
 ·by_cases hb:b=T
  ·subst hb
   rw[ai] at e
   cases e
   exact new
  ·rw[aH hb] at e
   refine (I.hok b u e).stay (λc v hc q=>k c v ?_ q) (λc q=>by rw[aH (aJ q hn)];exact q) λc xs q=>by rw[aH (aJ q hn)];exact q
   intro z
   have n0:=(f c z).1
   rcases hc with hc | hc
   ·rw[hc,e] at n0;cases n0
   ·rw[hc] at n0;cases n0
def Ite (K:Ez)(a:Addr):It :=
 ⟨λi H=>∃xs v,SqL K H a xs/\xs[i]? = some v,λi H x H'=>∃T v,H T=none/\x = .ref T/\H'=upd H T (.tup [.int i,v])/\∀xs,SqL K H a xs->xs[i]? = some v,λi H=>∃xs,SqL K H a xs/\xs.length<=i⟩
theorem w4 {P:EV}{w:Fm}{K:Ez}{elts:List Expr}{k:Nat}{pos:Pos}(a e it:Addr)(hne:e≠it):Turn P w K (.Tuple elts k pos) (Ite K a) [e,it] e (λi h=>(∃old,IsEnum h e it i old)/\h.IsListIter it a i) where
 mem:=by simp
 obj:=λi h ⟨⟨old,h1⟩,h2⟩ b hb=>by
  rcases EW.mp hb with q | q
  ·subst q
   exact ⟨_,h1,λv z=>nomatch z⟩
  ·have q':b=it:=by simpa using q
   subst q'
   obtain ⟨o,ho,_,hd⟩:=h2
   exact ⟨o,ho,λv z=>by rw[hd] at z;cases z⟩
 keep:=λi h h' ⟨⟨old,h1⟩,h2⟩ kp=>⟨⟨old,kp e (by simp) _ h1⟩,h2.at λo x=>kp it (by simp) o x⟩
 item:=λX eP eW eK hcalm i pins s σ H E I f ⟨⟨old,h1⟩,h2⟩ go=>by
  subst eP eW eK
  obtain ⟨xs,v,hs,hv⟩:=go
  obtain ⟨its,r,pl,hz⟩:=I.list hs
  obtain ⟨u,eu,ru⟩:=r.get hv
  refine wpAny_pyNext_enum_item h1 h2 pl.isList (x:=u) (by rw[Fj];exact eu) hne λh' o1 o2 o3 o4 kp =>?_
  refine ⟨_,rfl,?_⟩
  refine Kb o1 λh2' e2 sb =>?_
  have eT:e≠s.heap.objs.size:=EY (EN h1)
  have kp2:∀b ob,b∉[e,it]->s.heap.get? b=some ob->h2'.get? b=some ob:=λb ob hb eb=>by
   have n1:b≠e:=λz=>hb (by simp[z])
   have n2:b≠it:=λz=>hb (by simp[z])
   rw[sb.2 b n1]
   exact kp b ob n1 n2 eb
  have li:h2'.IsListIter it a (i+1):=o2.at λob eb=>by rw[sb.2 it (Gn hne)];exact eb
  have tp:h2'.get? s.heap.objs.size=some { cls :=.type "tuple",data :=.seq #[.int i s.toks,u] }:=by rw[sb.2 _ (Gn eT)];exact o3
  refine ⟨.ref s.heap.objs.size,upd H s.heap.objs.size (.tup [.int i,v]),I.i4 (ch:=[e,it]) f kp2 (λb hb =>?_) (EI _) ?_,rfl,⟨s.heap.objs.size,v,I.hok.fresh (EI _),rfl,rfl,λys hy =>?_⟩,⟨⟨_,e2⟩,li⟩,λb hb =>?_⟩
  ·rcases EW.mp hb with q | q
   ·subst q;exact ⟨_,e2⟩
   ·have q':b=it:=by simpa using q
    subst q'
    obtain ⟨ob,ho,_⟩:=li
    exact ⟨ob,ho⟩
  ·refine ⟨(by show 2<=ES;decide),[.int i s.toks,u],.cons ⟨_,rfl⟩ (.cons ru .nil),_,tp,⟨rfl,rfl⟩,_,rfl⟩
  ·rw[I.mB hy hs];exact hv
  ·have ne:b≠s.heap.objs.size:=by
    rcases EW.mp hb with q | q
    ·rw[q];exact eT
    ·have q':b=it:=by simpa using q
     rw[q']
     obtain ⟨ob,ho,_⟩:=h2
     exact EY (EN ho)
   rw[aH ne]
   exact (f b hb).1
 done:=λX eP eW eK hcalm i pins s σ H E I f ⟨⟨old,h1⟩,h2⟩ stop=>by
  subst eP eW eK
  obtain ⟨xs,hs,hl⟩:=stop
  obtain ⟨its,r,pl,hz⟩:=I.list hs
  have l:=r.length
  refine wpAny_pyNext_enum_end (I.ok.hd hcalm) h1 h2 pl.isList (by rw[Fj];exact HU.mpr (by lia)) λh' ex=>⟨rfl,?_⟩
  obtain ⟨g0,g1,g2,g3,g4,g5⟩:=f it (by simp)
  exact I.turned (it:=it) (h':=h') (t':=s.toks) (λb o ne eb=>ex b o ne eb) g0 g1 g3 g4 g5
 self:=λA i s Q E ⟨⟨old,h1⟩,_⟩ q=>by
  refine Js ⟨_,h1,rfl⟩ IA (FX IA ⟨_,h1,rfl⟩ K0 ?_ (Ky _))
  show E4 _ _ (ret (.ref e)) _ _ s
  exact EC ⟨_,rfl, "enumerate",_,⟨_,h1,rfl⟩,IC.lookup,q⟩
open PySem.AutoSeq1 (wpAny_loadPart')
section
variable  {prog:EV}{w:Fm}{A:FN}{E:EB->EG->Prop}{s:EG}
theorem mR {it t:Addr}{i:Nat}{items:Array EB}{x:EB}{Q:EB->EG->Prop}(hi:s.heap.IsTupleIter it t i)(hl:s.heap.IsTuple t items)(hx:items[i]? = some x)
  (q:∀h',h'.IsTupleIter it t (i+1)->Heap.SameBut it s.heap h'->Q x { s with heap:=h' }):E4 (Fq prog w) A (Builtin.SmallTypes.nextOf (.ref it)) Q E s:=by
 obtain ⟨o,eo,oc,od⟩:=id hi
 obtain ⟨ol,el,_,nl,dl⟩:=hl
 unfold Builtin.SmallTypes.nextOf
 refine Ew (F7 (name:=Str.ofString "__next__") hi.typeIs HJ (FX HJ hi.typeIs JV ?_ (JM _)))
 show E4 _ _ (field (.ref it) 0 >>= _) _ _ s;refine Ew (Gf eo od (x :=.ref t) rfl ?_)
 show E4 _ _ (if (E2 t == GV)=true then _ else _) _ _ s;rw[if_neg (show ¬ ((E2 t == GV)=true) from EO)]
 show E4 _ _ (field (.ref it) 1 >>= _) _ _ s;refine Ew (Gf eo od (x :=.int i 0) rfl ?_)
 show E4 _ _ (seqItems? (.ref t) >>= _) _ _ s;refine Ew (Gk el dl ?_)
 simp only[GK,hx];refine Ew (Jv eo od (by simp) (EC ⟨x,rfl,EC (q _ ?_ (IU ..))⟩))
 exact ⟨_,FH _ eo (Jz (HL od _)),(Mj ..).trans oc,by rw[HL od];simp[Ih]⟩
theorem dQ {it t:Addr}{i:Nat}{items:Array EB}{Q:EB->EG->Prop}(hh:A.handled=none)(hi:s.heap.IsTupleIter it t i)(hl:s.heap.IsTuple t items)(hx:items[i]? = none)
  (q:∀h' e,Heap.ExtBut it s.heap h'->(∃o,h'.get? e=some o/\o.cls = .type "StopIteration")->E (.ref e) { s with heap:=h' }):E4 (Fq prog w) A (Builtin.SmallTypes.nextOf (.ref it)) Q E s:=by
 obtain ⟨o,eo,oc,od⟩:=id hi
 obtain ⟨ol,el,_,nl,dl⟩:=hl
 unfold Builtin.SmallTypes.nextOf
 refine Ew (F7 (name:=Str.ofString "__next__") hi.typeIs HJ (FX HJ hi.typeIs JV ?_ (JM _)))
 show E4 _ _ (field (.ref it) 0 >>= _) _ _ s;refine Ew (Gf eo od (x :=.ref t) rfl ?_)
 show E4 _ _ (if (E2 t == GV)=true then _ else _) _ _ s;rw[if_neg (show ¬ ((E2 t == GV)=true) from EO)]
 show E4 _ _ (field (.ref it) 1 >>= _) _ _ s;refine Ew (Gf eo od (x :=.int i 0) rfl ?_)
 show E4 _ _ (seqItems? (.ref t) >>= _) _ _ s;refine Ew (Gk el dl ?_)
 simp only[GK,hx];refine Ew (HC (Ew (Jv eo od (by simp) ?_)))
 show E4 _ _ (newExc (.type "StopIteration") [] >>= _) _ _ _;refine Ew ?_
 simp only[newExc,newTuple];refine Ew (Ft ?_ (by size_fits))
 refine Ew (m:=firstArgMember _ _) (GP (a:=GV) (by first | rfl | (simp only[firstArgMember];rfl)) ?_);refine Ft ?_ (by size_fits)
 simp only[raiseNew];refine Ew (L9 ?_)
 first | (rw[show A.in1.handled=none from hh]) | (rw[hh])
 refine Ew (EC (M8 ?_));exact q _ _ (((IU ..).extBut.push _).push _) ⟨_,EK _ rfl,rfl⟩
theorem w5 (hh:A.handled=none)(it l:Addr)(hne:l≠it)(items:Array EB) :
  Draws prog w A it [it,l] items.size (λi v=>items[i]? = some v) (λi h=>h.IsTupleIter it l i/\h.IsTuple l items) where
 live:=λ_ _ st=>by obtain ⟨o,ho,_⟩:=st.1;exact ⟨o,ho⟩
 frame:=λ_ _ _ st hk=>⟨st.1.at λo e=>hk it (by simp) o e,by obtain ⟨o,e,r⟩:=st.2;exact ⟨o,hk l (by simp) o e,r⟩⟩
 item:=λi s Q E hi st hQ=>by
  refine mR st.1 st.2 (x:=items[i]) (by simp[hi]) λh' hit' hs' =>?_
  obtain ⟨o,e,r⟩:=st.2
  exact hQ _ h' s.toks (by simp[hi]) ⟨hit',o,by rw[hs'.2 l hne];exact e,r⟩ hs'
 done:=λs Q E st hE=>dQ hh st.1 st.2 (by simp) hE
theorem qa (l:Addr)(items:Array EB)(n:Nat)(dct:Option Addr)(sl:Array (Option EB)) :
  Meets (Builtin.«enumerate.__new__» ⟨[.type "enumerate",.ref l],[]⟩) (λ_ R s=>s.heap.get? l=some { cls :=.type "tuple",dict:=dct,data :=.seq items n,slots:=sl } ∧
   R (.ok (.ret (.ref (s.heap.push { cls :=.type "tuple_iterator",data :=.fields #[.ref l,.int 0 0] }).objs.size)))
    { s with heap:=(s.heap.push { cls :=.type "tuple_iterator",data :=.fields #[.ref l,.int 0 0] }).push { cls :=.type "enumerate",data :=.fields #[.none,.bool false,.ref s.heap.objs.size,Ih 0,.none,.none] } }) :=
 .of_wp λprog w A R s h=>by
  obtain ⟨hp,g,d,tk,os⟩:=s;obtain ⟨hl,h⟩:=h
  have hsub:=sub_enumerate
  have hT:Heap.IsTuple (Shared.heap ⟨hp,g,d,tk,os⟩) l items:=⟨_,hl,rfl,n,rfl⟩
  wp_walk using wpAny_loadPart' hl
  refine wpAny_stack_any λst=>EC ?_
  split
  ·rename_i c _ _ _ _ _
   cases (c == Hk "enumerate") <;> (wp_walk using wpAny_loadPart' hl,GS hT;exact ⟨_,rfl,h⟩)
  ·wp_walk using wpAny_loadPart' hl,GS hT;exact ⟨_,rfl,h⟩
theorem og {l:Addr}{items:Array EB}{Q:EB->EG->Prop}(hL:s.heap.IsTuple l items)
  (h:∀h',IsEnum h' (s.heap.objs.size+1) s.heap.objs.size 0 .none->h'.IsTupleIter s.heap.objs.size l 0->h'.objs.size=s.heap.objs.size+2->(∀b o,s.heap.get? b=some o->h'.get? b=some o)->Q (.ref (s.heap.objs.size+1)) { s with heap:=h' }) :
  E4 (Fq prog w) A (call (.type "enumerate") [.ref l]) Q E s:=by
 obtain ⟨⟨c,dct,dt,sl⟩,hl,hc,n,hd⟩:=hL
 replace hc:c = .type "tuple" := hc
 replace hd:dt = .seq items n:=hd
 subst hc hd
 refine Lj F.called_enumerate (by decide) (F.typeCall_enumerate_1 _) (F.newCall_enumerate_1 _) (λobj=>F.args_object_init_2 obj _) F.entry_enumerate_new (qa l items n dct sl) ⟨hl,?_⟩
 have hz:(s.heap.push { cls :=.type "tuple_iterator",data :=.fields #[.ref l,.int 0 0] }).objs.size=s.heap.objs.size+1:=FK ..
 show _/\_
 rw[hz]
 have he:IsEnum ((s.heap.push { cls :=.type "tuple_iterator",data :=.fields #[.ref l,.int 0 0] }).push { cls :=.type "enumerate",data :=.fields #[.none,.bool false,.ref s.heap.objs.size,Ih 0,.none,.none] }) (s.heap.objs.size+1) s.heap.objs.size 0 .none:=by
  have:=EK (s.heap.push { cls :=.type "tuple_iterator",data :=.fields #[.ref l,.int 0 0] }) (o:={ cls :=.type "enumerate",data :=.fields #[.none,.bool false,.ref s.heap.objs.size,Ih 0,.none,.none] }) rfl
  rw[hz] at this;exact this
 exact ⟨⟨_,he,rfl⟩,h _ he ⟨_,Ey _ (EK _ rfl),rfl,rfl⟩ (by rw[FK,hz]) λb o x=>Ey _ (Ey _ x)⟩
end
theorem fO {prog:EV}{w:Fm}{A:FN}{E:EB->EG->Prop}{s:EG}{e it t:Addr}{i:Nat}{items:Array EB}{old:EB}{Q:Option EB->EG->Prop}(hh:A.in1.handled=none)(he:IsEnum s.heap e it i old)(hi:s.heap.IsTupleIter it t i)
  (hl:s.heap.IsTuple t items) (hx:items[i]? = none) (q:∀h',Heap.ExtBut it s.heap h'->Q none { s with heap:=h' }):E4 (Fq prog w) A (pyNext (.ref e)) Q E s:=by
 have hT:s.TypeIs (.ref e) "enumerate" :=⟨_,he,rfl⟩
 unfold pyNext
 refine Ew (Hz (F7 (name:=Str.ofString "__next__") hT IC (FX IC hT F.entry_enumerate_next ?_ (F.args_enumerate_next_1 _))))
 show E4 _ _ (field (.ref e) 2 >>= _) _ _ _;refine Ew (Gf he rfl (x :=.ref it) rfl ?_)
 refine Ew (dQ hh hi hl hx λh' x he' hx' =>?_)
 obtain ⟨o,ho,hc⟩:=hx'
 refine Ew (HK (T := "StopIteration") (b:=true) ⟨o,ho,hc⟩ Kk ?_);exact EC (q _ he')
def ItE (K:Ez)(a:Addr):It :=
 ⟨λi H=>∃xs v,SqT K H a xs/\xs[i]? = some v,λi H x H'=>∃T v,H T=none/\x = .ref T/\H'=upd H T (.tup [.int i,v])/\∀xs,SqT K H a xs->xs[i]? = some v,λi H=>∃xs,SqT K H a xs/\xs.length<=i⟩
theorem t8 {P:EV}{w:Fm}{K:Ez}{elts:List Expr}{k:Nat}{pos:Pos}(a e it:Addr)(hne:e≠it)(hai:a≠it)(hae:a≠e):Turn P w K (.Tuple elts k pos) (ItE K a) [e,it] e (λi h=>(∃old,IsEnum h e it i old)/\h.IsTupleIter it a i) where
 mem:=by simp
 obj:=λi h ⟨⟨old,h1⟩,h2⟩ b hb=>by
  rcases EW.mp hb with q | q
  ·subst q
   exact ⟨_,h1,λv z=>nomatch z⟩
  ·have q':b=it:=by simpa using q
   subst q'
   obtain ⟨o,ho,_,hd⟩:=h2
   exact ⟨o,ho,λv z=>by rw[hd] at z;cases z⟩
 keep:=λi h h' ⟨⟨old,h1⟩,h2⟩ kp=>⟨⟨old,kp e (by simp) _ h1⟩,h2.at λo x=>kp it (by simp) o x⟩
 item:=λX eP eW eK hcalm i pins s σ H E I f ⟨⟨old,h1⟩,h2⟩ go=>by
  subst eP eW eK
  obtain ⟨xs,v,hs,hv⟩:=go
  obtain ⟨its,r,pl,hz⟩:=I.tuple hs
  obtain ⟨u,eu,ru⟩:=r.get hv
  have hi:i<its.toArray.size:=by rw[EM];exact (EJ.mp eu).1
  have hd:X.A.in1.handled=none:=I.ok.hd hcalm
  refine wpAny_pyNext_enum_itemD (w5 hd it a hai its.toArray) h1 ⟨h2,(show s.heap.IsTuple a its.toArray from pl)⟩ hi hne (by simp[hne,Gn hae]) λx h' tk px o1 o2 o3 o4 kp =>?_
  rw[Fj,eu] at px
  have px':u=x:=EX px
  subst px'
  refine ⟨_,rfl,?_⟩
  refine Kb o1 λh2' e2 sb =>?_
  have eT:e≠s.heap.objs.size:=EY (EN h1)
  have kp2:∀b ob,b∉[e,it]->s.heap.get? b=some ob->h2'.get? b=some ob:=λb ob hb eb=>by
   have n1:b≠e:=λz=>hb (by simp[z])
   have n2:b≠it:=λz=>hb (by simp[z])
   rw[sb.2 b n1]
   exact kp b ob n1 n2 eb
  have li:h2'.IsTupleIter it a (i+1):=o2.1.at λob eb=>by rw[sb.2 it (Gn hne)];exact eb
  have tp:h2'.get? s.heap.objs.size=some { cls :=.type "tuple",data :=.seq #[.int i tk,u] }:=by rw[sb.2 _ (Gn eT)];exact o3
  refine ⟨.ref s.heap.objs.size,upd H s.heap.objs.size (.tup [.int i,v]),I.i4 (ch:=[e,it]) f kp2 (λb hb =>?_) (EI _) ?_,rfl,⟨s.heap.objs.size,v,I.hok.fresh (EI _),rfl,rfl,λys hy =>?_⟩,⟨⟨_,e2⟩,li⟩,λb hb =>?_⟩
  ·rcases EW.mp hb with q | q
   ·subst q;exact ⟨_,e2⟩
   ·have q':b=it:=by simpa using q
    subst q'
    obtain ⟨ob,ho,_⟩:=li
    exact ⟨ob,ho⟩
  ·refine ⟨(by show 2<=ES;decide),[.int i tk,u],.cons ⟨_,rfl⟩ (.cons ru .nil),_,tp,⟨rfl,rfl⟩,_,rfl⟩
  ·rw[I.ic hy hs];exact hv
  ·have ne:b≠s.heap.objs.size:=by
    rcases EW.mp hb with q | q
    ·rw[q];exact eT
    ·have q':b=it:=by simpa using q
     rw[q']
     obtain ⟨ob,ho,_⟩:=h2
     exact EY (EN ho)
   rw[aH ne]
   exact (f b hb).1
 done:=λX eP eW eK hcalm i pins s σ H E I f ⟨⟨old,h1⟩,h2⟩ stop=>by
  subst eP eW eK
  obtain ⟨xs,hs,hl⟩:=stop
  obtain ⟨its,r,pl,hz⟩:=I.tuple hs
  have l:=r.length
  have hd:X.A.in1.handled=none:=I.ok.hd hcalm
  refine fO (A:=X.A) hd h1 h2 (show s.heap.IsTuple a its.toArray from pl) (by rw[Fj];exact HU.mpr (by lia)) λh' ex=>⟨rfl,?_⟩
  obtain ⟨g0,g1,g2,g3,g4,g5⟩:=f it (by simp)
  exact I.turned (it:=it) (h':=h') (t':=s.toks) (λb o ne eb=>ex b o ne eb) g0 g1 g3 g4 g5
 self:=λA i s Q E ⟨⟨old,h1⟩,_⟩ q=>by
  refine Js ⟨_,h1,rfl⟩ IA (FX IA ⟨_,h1,rfl⟩ K0 ?_ (Ky _))
  show E4 _ _ (ret (.ref e)) _ _ s
  exact EC ⟨_,rfl, "enumerate",_,⟨_,h1,rfl⟩,IC.lookup,q⟩
def DR (K:Ez)(ta:TA):TI:=λσ H R=>ta σ H λvs H1=>∃a,vs=[.ref a]/\(((∃xs,SqL K H1 a xs)/\R (Ite K a) H1)\/((∃xs,SqT K H1 a xs)/\R (ItE K a) H1))
section
variable  {X:Cx}
theorem A2 {a:Expr}{ta:TA}{p pos pos':Pos}{elts:List Expr}{k:Nat}(hg:Gl X "enumerate")(hm:X.mg "enumerate" = none)(ha:PA X [a] ta)(hs:FT [a] X.env=[(false,eval a X.env)]:=by rfl) :
  PI X (.Tuple elts k pos') (.Call (.Name "enumerate" p) [a] [] pos) (DR X.K ta):=by
 intro pins s σ H R I h
 refine Call_ (eO I hg hm boot_enumerate (GA (thn (ha pos pins s σ H _ I h) λus s1 ⟨vs,H1,I1,r1,q1⟩ =>?_) hs rfl))
 obtain ⟨l,e,q1⟩:=q1
 subst e
 obtain ⟨u,rfl,ru⟩:=vals1 r1
 cases (show u=E2 l from ru)
 have fp:∀b∈[s1.heap.objs.size+1,s1.heap.objs.size],gs X pins H1 b:=λb hb=>by
  have ge:s1.heap.objs.size<=b:=by
   rcases EW.mp hb with q | q
   ·rw[q];exact JU _
   ·have q':b=s1.heap.objs.size:=by simpa using q
    rw[q'];exact EI _
  exact I1.wR ge (I1.hok.fresh ge)
 have ne:s1.heap.objs.size+1≠s1.heap.objs.size:=GZ (F8 _)
 rcases q1 with ⟨⟨xs,hq⟩,q⟩ | ⟨⟨xs,hq⟩,q⟩
 ·obtain ⟨its,rv,pl,hz⟩:=I1.list hq
  refine call_enumerate_list pl.isList λh' he li _ kp =>?_
  have T:=w4 (P:=X.prog) (w:=X.w) (K:=X.K) (elts:=elts) (k:=k) (pos:=pos') l _ _ ne
  refine T.self _ 0 _ _ _ ⟨⟨_,he⟩,li⟩ ?_
  exact ⟨_,_,_,_,H1,rfl,I1.kept (t':=s1.toks) kp,T,⟨⟨_,he⟩,li⟩,fp,q⟩
 ·obtain ⟨its,rv,pl,hz⟩:=I1.tuple hq
  have lt:l<s1.heap.objs.size:=by obtain ⟨o,e,_⟩:=pl;exact EN e
  refine og (show s1.heap.IsTuple l its.toArray from pl) λh' he li _ kp =>?_
  have T:=t8 (P:=X.prog) (w:=X.w) (K:=X.K) (elts:=elts) (k:=k) (pos:=pos') l _ _ ne (EY lt) (EY (FV lt))
  refine T.self _ 0 _ _ _ ⟨⟨_,he⟩,li⟩ ?_
  exact ⟨_,_,_,_,H1,rfl,I1.kept (t':=s1.toks) kp,T,⟨⟨_,he⟩,li⟩,fp,q⟩
end
def yT (J:It)(g:TG)(tb:TS)(D:Ends)(σ:St)(H:Hp):Prop:=∃W:Nat->Nat->St->Hp->Prop,(∃m,W 0 m σ H)/\∀i m σ H,W i m σ H →
 (J.stop i H/\D.nx σ H)\/(J.go i H/\∃N:St->Hp->Prop,(∀σ' H',N σ' H'->∃m',m'<m/\W (i+1) m' σ' H')/\∀x H',J.yld i H x H'->g x σ H' λσ2 H2=>tb { D with nx:=N,ct:=N,bk:=D.nx } σ2 H2)
theorem Ds {K:Ez}{a:Addr}{xs:List V}{g:TG}{tb:TS}{D:Ends}{σ:St}{H:Hp}(Pv:Nat->St->Hp->Prop)(h0:Pv 0 σ H)(hl:∀i σ H,i<=xs.length->Pv i σ H->SqL K H a xs)
  (hs:∀i x σ H T,xs[i]? = some x->H T=none->Pv i σ H->g (.ref T) σ (upd H T (.tup [.int i,x])) λσ2 H2=>tb { D with nx:=Pv (i+1),ct:=Pv (i+1),bk:=D.nx } σ2 H2) (hd:∀σ H,Pv xs.length σ H->D.nx σ H):yT (Ite K a) g tb D σ H:=by
 refine ⟨λi m σ H=>m=xs.length-i/\i<=xs.length/\Pv i σ H,⟨xs.length,by simp,FE _,h0⟩,?_⟩
 rintro i m σ H ⟨rfl,hi,p⟩
 have q:=hl i σ H hi p
 by_cases hlt:i<xs.length
 ·refine .inr ⟨⟨xs,xs[i],q,by simp[hlt]⟩,Pv (i+1),λσ' H' p'=>⟨xs.length-(i+1),by lia,rfl,hlt,p'⟩,λx H' y =>?_⟩
  obtain ⟨T,v,hT,ex,eH,hv⟩:=y
  subst ex eH
  exact hs i v σ H T (hv xs q) hT p
 ·have e:i=xs.length:=by lia
  subst e
  exact .inl ⟨⟨xs,q,EI _⟩,hd σ H p⟩
theorem w6 {K:Ez}{a:Addr}{xs:List V}{g:TG}{tb:TS}{D:Ends}{σ:St}{H:Hp}(Pv:Nat->St->Hp->Prop)(h0:Pv 0 σ H)(hl:∀i σ H,i<=xs.length->Pv i σ H->SqT K H a xs)
  (hs:∀i x σ H T,xs[i]? = some x->H T=none->Pv i σ H->g (.ref T) σ (upd H T (.tup [.int i,x])) λσ2 H2=>tb { D with nx:=Pv (i+1),ct:=Pv (i+1),bk:=D.nx } σ2 H2) (hd:∀σ H,Pv xs.length σ H->D.nx σ H):yT (ItE K a) g tb D σ H:=by
 refine ⟨λi m σ H=>m=xs.length-i/\i<=xs.length/\Pv i σ H,⟨xs.length,by simp,FE _,h0⟩,?_⟩
 rintro i m σ H ⟨rfl,hi,p⟩
 have q:=hl i σ H hi p
 by_cases hlt:i<xs.length
 ·refine .inr ⟨⟨xs,xs[i],q,by simp[hlt]⟩,Pv (i+1),λσ' H' p'=>⟨xs.length-(i+1),by lia,rfl,hlt,p'⟩,λx H' y =>?_⟩
  obtain ⟨T,v,hT,ex,eH,hv⟩:=y
  subst ex eH
  exact hs i v σ H T (hv xs q) hT p
 ·have e:i=xs.length:=by lia
  subst e
  exact .inl ⟨⟨xs,q,EI _⟩,hd σ H p⟩
end L2
namespace Srt
open PySem PyProof.Rows
def mAt:Nat->StateT Ir Sem Bool:=sortPriv% PySem.Builtin.mergeAt
def B7:StateT Ir Sem Unit:=sortPriv% PySem.Builtin.sortRuns
def CK:Nat->Nat->StateT Ir Sem (Option Nat):=sortPriv% PySem.Builtin.countRun
def yU:Nat->Nat->Nat->StateT Ir Sem Bool:=sortPriv% PySem.Builtin.binarySort
section
variable  {prog:EV}{w:Fm}{A:FN}{E:EB->EG->Prop}{s:EG}
end
structure Cmp (prog:EV)(w:Fm)(A:FN)(s:EG)(O:Ln)(key:IL->O.α)(U:IL->Prop)(κ:SortKind):Prop where
 lt:∀(E:EB->EG->Prop) (st:Ir) (x y:IL) (Q:Option Bool->Ir->Prop),kindOf st=κ -> U x->U y->Q (some (O.blt (key x) (key y))) st->wpS (Fq prog w) A E s (lt' x y) Q st
section
variable  {prog:EV}{w:Fm}{A:FN}{E:EB->EG->Prop}{s:EG}{O:Ln}{key:IL->O.α}{U:IL->Prop}{κ:SortKind}
theorem vh {ar:Array IL}{i:Nat}{z:IL}{st:Ir}{Q:IL->Ir->Prop}(h:ar[i]? = some z)(hq:Q z st):wpS (Fq prog w) A E s (elem' ar i) Q st:=by
 rw[elem'_eq,h]
 exact Hc hq
end
section
variable  {O:Ln}(key:IL->O.α)
def Le (p q:IL):Prop:=O.kle (key p) (key q)
variable  {key}
end
section
variable  {prog:EV}{w:Fm}{A:FN}{E:EB->EG->Prop}{s:EG}{O:Ln}{key:IL->O.α}{U:IL->Prop}{κ:SortKind}
theorem yV {a:Array IL}{i:Nat}(h:i<a.size):∃z,a[i]? = some z:=⟨a[i],by simp[h]⟩
theorem vi {a:Array IL}{i:Nat}{z:IL}(h:a[i]? = some z):z∈a.toList:=Hr.mpr ⟨i,by rw[FO];exact h⟩
end
theorem A3 (lo m:Nat):CK lo m=(do
    let mut n:=1
    for _ in [1:m] do
      let some sm ← ltAt' (lo+n) (lo+n-1)
        | return none
      if sm then break
      n:=n+1
    if n == m then return some n
    if n>1 then
      let some ro ← ltAt' lo (lo+n-1)
        | return none
      if ro then return some n
      reverseSlice' lo (lo+n)
    rule "list.sort.descending-run"
    n:=n+1
    let mut q:=0
    for _ in [n:m] do
      let some sm ← ltAt' (lo+n) (lo+n-1)
        | return none
      if sm then
        if q>0 then reverseSlice' (lo+n-(q+1)) (lo+n)
        q:=0
      else
        let some lg ← ltAt' (lo+n-1) (lo+n)
          | return none
        if lg then break
        q:=q+1
      n:=n+1
    if q>0 then reverseSlice' (lo+n-(q+1)) (lo+n)
    reverseSlice' lo (lo+n)
    for _ in [n:m] do
      let some sm ← ltAt' (lo+n) (lo+n-1)
        | return none
      if sm then break
      n:=n+1
    return some n):=rfl
theorem yW (lo n ok:Nat):yU lo n ok=(do
    for k in [max ok 1:n] do
      let mut l:=0;let mut r:=k
      for _ in [0:k] do
        if l≥r then break
        let m:=(l+r)/2
        let some le ← ltAt' (lo+k) (lo+m)
          | return false
        if le then r:=m else l:=m+1
      moveDown' (lo+k) (lo+l)
    return true):=rfl
section
variable  {O:Ln}(key:IL->O.α)
def kk (xs:Array IL)(i:Nat):O.α:=key ((xs[i]?).getD (GV,GV))
def Up (xs:Array IL)(lo n:Nat):Prop:=∀i j,lo<=i->i<=j->j<lo+n->O.kle (kk key xs i) (kk key xs j)
def Down (xs:Array IL)(lo n:Nat):Prop:=∀i j,lo<=i->i<=j->j<lo+n->O.kle (kk key xs j) (kk key xs i)
variable  {key}
theorem jK {xs ys:Array IL}{i j:Nat}(h:xs[i]? = ys[j]?):kk key xs i=kk key ys j:=by unfold kk;rw[h]
theorem oM {xs:Array IL}{i j:Nat}(hj:j<=xs.size)(k:Nat):kk key (mirror xs i j ((j-i)/2)) k=if i<=k/\k<j then kk key xs (i+j-1-k) else kk key xs k:=by
 have e:=LN (i:=i) hj k
 by_cases h:i<=k/\k<j
 ·rw[if_pos h] at e ⊢;exact jK e
 ·rw[if_neg h] at e ⊢;exact jK e
theorem fP {xs:Array IL}{i j:Nat}(hj:j<=xs.size)(he:∀k,i<=k->k<j->kk key xs k=kk key xs (j-1))(k:Nat):kk key (mirror xs i j ((j-i)/2)) k=kk key xs k:=by
 rw[oM hj]
 split
 ·rw[he _ (by omega) (by omega),he k (by omega) (by omega)]
 ·rfl
end
structure SA (lo:Nat)(st st':Ir):Prop where
 perm:(FC st').Perm (FC st)
 pre:∀k,k<lo->(FC st')[k]? = (FC st)[k]?
 k:kindOf st'=kindOf st
 p:Iu st'=Iu st
 f:failedOf st'=failedOf st
theorem SA.refl (lo:Nat)(st:Ir):SA lo st st:=⟨Array.Perm.refl _,λ_ _=>rfl,rfl,rfl,rfl⟩
theorem SA.size {lo:Nat}{st st':Ir}(h:SA lo st st'):(FC st').size=(FC st).size:=h.perm.size_eq
theorem SA.mirror {lo:Nat}{st st':Ir}(h:SA lo st st'){i j:Nat}(hi:lo<=i)(hj:j<=(FC st').size):SA lo st (setArr st' (mirror (FC st') i j ((j-i)/2))) :=
 ⟨(mirror_perm _ _ _ _).trans h.perm,λk hk=>by
  show (PyProof.Rows.mirror (FC st') i j ((j-i)/2))[k]? = _
  rw[LN hj,if_neg (by lia)]
  exact h.pre k hk,h.k,h.p,h.f⟩
theorem SA.mem {lo:Nat}{st st':Ir}(h:SA lo st st'){p:IL}(hp:p∈(FC st').toList):p∈(FC st).toList:=(J8.mp h.perm).mem_iff.mp hp
section
variable  {prog:EV}{w:Fm}{A:FN}{E:EB->EG->Prop}{s:EG}{O:Ln}{key:IL->O.α}{U:IL->Prop}{κ:SortKind}
theorem iy (C:Cmp prog w A s O key U κ){st:Ir}{i j:Nat}{Q:Option Bool->Ir->Prop}(hκ:kindOf st=κ)(hu:∀p∈(FC st).toList,U p)(hi:i<(FC st).size)(hj:j<(FC st).size)
  (h:Q (some (O.blt (kk key (FC st) i) (kk key (FC st) j))) st):wpS (Fq prog w) A E s (ltAt' i j) Q st:=by
 rw[ltAt'_eq]
 refine Gm (My ?_)
 obtain ⟨x,ex⟩:=yV hi
 obtain ⟨y,ey⟩:=yV hj
 dsimp only
 refine Gm (vh ex (Gm (vh ey (C.lt _ st x y _ hκ (hu _ (vi ex)) (hu _ (vi ey)) ?_))))
 unfold kk at h
 rw[ex,ey] at h
 exact h
theorem A4 (C:Cmp prog w A s O key U κ){st:Ir}{lo m:Nat}{Q:Option Nat->Ir->Prop}(hκ:kindOf st=κ)(hu:∀p∈(FC st).toList,U p)(hm:1<=m)(hz:lo+m=(FC st).size)
  (h:∀n st',1<=n->n<=m->SA lo st st'->Up key (FC st') lo n->Q (some n) st'):wpS (Fq prog w) A E s (CK lo m) Q st:=by
 rw[A3]
 dsimp only
 refine Gm (Lr (Jd (I:=λx c st'=>st=st'/\c=(none,x)/\Up key (FC st) lo x)
  (Q:=λc st'=>st=st'/\∃n,c=(none,n)/\1<=n/\n<=m/\Up key (FC st) lo n/\(n<m->O.klt (kk key (FC st) (lo+n)) (kk key (FC st) (lo+n-1)))) ?step ?fin ⟨rfl,rfl,λi j h1 h2 h3=>by rw[show i=j by lia];exact Hs _⟩) ?post)
 case fin =>
  rintro c st' ⟨rfl,rfl,up⟩
  exact ⟨rfl,_,rfl,by lia,by lia,by rw[show max 1 m=m by lia] at up ⊢;exact up,by lia⟩
 case step =>
  rintro x c st' h1 h2 ⟨rfl,rfl,up⟩
  dsimp only
  refine Gm (iy C hκ hu (by lia) (by lia) ?_)
  dsimp only
  cases hb:O.blt (kk key (FC st) (lo+x)) (kk key (FC st) (lo+x-1)) with
  | true =>
   rw[if_pos rfl]
   exact Hc ⟨rfl,x,rfl,h1,by lia,up,λ_=>hb⟩
  | false =>
   rw[if_neg (by simp)]
   refine Hc ⟨rfl,rfl,λi j k1 k2 k3 =>?_⟩
   by_cases hj:j=lo+x
   ·by_cases hi:i=j
    ·rw[hi];exact Hs _
    ·rw[hj]
     exact IQ (up i (lo+x-1) k1 (by lia) (by lia)) hb
   ·exact up i j k1 k2 (by lia)
 case post =>
  rintro c st' ⟨rfl,n,rfl,n1,n2,up,br⟩
  dsimp only
  by_cases c1:(n == m)=true
  ·rw[if_pos c1]
   exact Hc (h n st n1 n2 (SA.refl _ _) up)
  rw[if_neg c1]
  have nm:n<m:=by have:n≠m:=λz=>c1 (beq_iff_eq.mpr z);lia
  have br:=br nm
  by_cases c2:n>1
  case' pos =>
   rw[if_pos c2]
   refine Gm (iy C hκ hu (by lia) (by lia) ?_)
   dsimp only
   cases hro:O.blt (kk key (FC st) lo) (kk key (FC st) (lo+n-1))
   case' true =>
    rw[if_pos rfl]
    exact Hc (h n st n1 n2 (SA.refl _ _) up)
   rw[if_neg (by simp)]
   have eqs:∀k,lo<=k->k<lo+n->kk key (FC st) k=kk key (FC st) (lo+n-1):=λk k1 k2 =>
    LI (up k (lo+n-1) k1 (by lia) (by lia)) (IQ (show O.kle (kk key (FC st) (lo+n-1)) (kk key (FC st) lo) from hro) (up lo k (EI _) k1 k2))
   rw[JI]
   refine Gm (JQ ?_)
   have sa:=(SA.refl lo st).mirror (i:=lo) (j:=lo+n) (EI _) (by lia)
   have ke:=fP (key:=key) (xs:=FC st) (i:=lo) (j:=lo+n) (by lia) eqs
   have ka:∀k,kk key (FC (setArr st (mirror (FC st) lo (lo+n) ((lo+n-lo)/2)))) k=kk key (FC st) k:=ke
   generalize setArr st (mirror (FC st) lo (lo+n) ((lo+n-lo)/2))=st1 at sa ka ⊢
   clear ke
  case' neg =>
   rw[if_neg c2]
   have eqs:∀k,lo<=k->k<lo+n->kk key (FC st) k=kk key (FC st) (lo+n-1):=λk k1 k2=>by rw[show k=lo+n-1 by lia]
   obtain ⟨st1,e1⟩:∃st1,st1=st:=⟨_,rfl⟩
   have sa:SA lo st st1:=by rw[e1];exact SA.refl _ _
   have ka:∀k,kk key (FC st1) k=kk key (FC st) k:=λk=>by rw[e1]
   rw[<- e1]
   clear e1
  all_goals
   refine Gm (Nv (HC ⟨rfl,?_⟩))
   have dn:Down key (FC st1) lo (n+1):=λi j k1 k2 k3=>by
    rw[ka,ka]
    by_cases hj:j=lo+n
    ·by_cases hi:i=j
     ·rw[hi];exact Hs _
     ·rw[hj,eqs i k1 (by lia)]
      exact Km br
    ·rw[eqs i k1 (by lia),eqs j (by lia) (by lia)]
     exact Hs _
   clear eqs up br ka
   refine Gm (Lr (Jd (I:=λx c st'=>∃q,c=(none,x,q)/\x<=m/\SA lo st st'/\Down key (FC st') lo x/\q+1<=x/\∀k,lo+x-(q+1)<=k->k<lo+x->kk key (FC st') k=kk key (FC st') (lo+x-1))
    (Q:=λc st'=>∃x q,c=(none,x,q)/\1<=x/\x<=m/\SA lo st st'/\Down key (FC st') lo x/\q+1<=x/\∀k,lo+x-(q+1)<=k->k<lo+x->kk key (FC st') k=kk key (FC st') (lo+x-1)) ?step ?fin
    ⟨0,rfl,by lia,sa,dn,by lia,λk k1 k2=>by rw[show k=lo+(n+1)-1 by lia]⟩) ?post)
   case fin =>
    rintro c st' ⟨q,rfl,xm,sa,dn,hq,he⟩
    exact ⟨_,q,rfl,by lia,xm,sa,dn,hq,he⟩
   case step =>
    rintro x c st2 h1 h2 ⟨q,rfl,xm,sa2,dn2,hq,he⟩
    dsimp only
    have sz:=sa2.size
    have u2:∀p∈(FC st2).toList,U p:=λp hp=>hu p (sa2.mem hp)
    refine Gm (iy C (sa2.k.trans hκ) u2 (by lia) (by lia) ?_)
    dsimp only
    cases hb:O.blt (kk key (FC st2) (lo+x)) (kk key (FC st2) (lo+x-1)) with
    | true =>
     rw[if_pos rfl]
     have dn3:Down key (FC st2) lo (x+1):=λi j k1 k2 k3=>by
      by_cases hj:j=lo+x
      ·by_cases hi:i=j
       ·rw[hi];exact Hs _
       ·rw[hj];exact IQ (Km hb) (dn2 i (lo+x-1) k1 (by lia) (by lia))
      ·exact dn2 i j k1 k2 (by lia)
     by_cases q0:q>0
     ·rw[if_pos q0,JI]
      refine Gm (JQ (Hc ?_))
      have ke:=fP (key:=key) (xs:=FC st2) (i:=lo+x-(q+1)) (j:=lo+x) (by lia) he
      refine ⟨0,rfl,by lia,sa2.mirror (by lia) (by lia),λi j k1 k2 k3 =>?_,by lia,λk k1 k2=>by rw[show k=lo+(x+1)-1 by lia]⟩
      show O.kle (kk key (mirror (FC st2) (lo+x-(q+1)) (lo+x) ((lo+x-(lo+x-(q+1)))/2)) j) (kk key (mirror (FC st2) (lo+x-(q+1)) (lo+x) ((lo+x-(lo+x-(q+1)))/2)) i)
      rw[ke,ke]
      exact dn3 i j k1 k2 k3
     ·rw[if_neg q0]
      exact Hc ⟨0,rfl,by lia,sa2,dn3,by lia,λk k1 k2=>by rw[show k=lo+(x+1)-1 by lia]⟩
    | false =>
     rw[if_neg (by simp)]
     refine Gm (iy C (sa2.k.trans hκ) u2 (by lia) (by lia) ?_)
     dsimp only
     cases hb2:O.blt (kk key (FC st2) (lo+x-1)) (kk key (FC st2) (lo+x)) with
     | true =>
      rw[if_pos rfl]
      exact Hc ⟨x,q,rfl,by lia,xm,sa2,dn2,hq,he⟩
     | false =>
      rw[if_neg (by simp)]
      have eq:=LI (show O.kle (kk key (FC st2) (lo+x)) (kk key (FC st2) (lo+x-1)) from hb2) hb
      refine Hc ⟨q+1,rfl,by lia,sa2,λi j k1 k2 k3 =>?_,by lia,λk k1 k2 =>?_⟩
      ·by_cases hj:j=lo+x
       ·by_cases hi:i=j
        ·rw[hi];exact Hs _
        ·rw[hj,eq];exact dn2 i (lo+x-1) k1 (by lia) (by lia)
       ·exact dn2 i j k1 k2 (by lia)
      ·rw[show lo+(x+1)-1=lo+x by lia,eq]
       by_cases hk:k=lo+x
       ·rw[hk,eq]
       ·exact he k (by lia) (by lia)
   case post =>
    rintro c st2 ⟨x,q,rfl,x1,xm,sa2,dn2,hq,he⟩
    dsimp only
    have sz:=sa2.size
    by_cases q0:q>0
    case' pos =>
     rw[if_pos q0,JI]
     refine Gm (JQ ?_)
     have ke:=fP (key:=key) (xs:=FC st2) (i:=lo+x-(q+1)) (j:=lo+x) (by lia) he
     have sa3:=sa2.mirror (i:=lo+x-(q+1)) (j:=lo+x) (by lia) (by lia)
     have dn3:Down key (FC (setArr st2 (mirror (FC st2) (lo+x-(q+1)) (lo+x) ((lo+x-(lo+x-(q+1)))/2)))) lo x:=λi j k1 k2 k3=>by
      show O.kle (kk key (mirror (FC st2) (lo+x-(q+1)) (lo+x) ((lo+x-(lo+x-(q+1)))/2)) j) (kk key (mirror (FC st2) (lo+x-(q+1)) (lo+x) ((lo+x-(lo+x-(q+1)))/2)) i)
      rw[ke,ke]
      exact dn2 i j k1 k2 k3
     generalize setArr st2 (mirror (FC st2) (lo+x-(q+1)) (lo+x) ((lo+x-(lo+x-(q+1)))/2))=st3 at sa3 dn3 ⊢
     clear ke
    case' neg =>
     rw[if_neg q0]
     obtain ⟨st3,e3⟩:∃st3,st3=st2:=⟨_,rfl⟩
     have sa3:SA lo st st3:=by rw[e3];exact sa2
     have dn3:Down key (FC st3) lo x:=by rw[e3];exact dn2
     rw[<- e3]
     clear e3
    all_goals
     rw[JI]
     refine Gm (JQ ?_)
     have sz3:=sa3.size
     have sa4:=sa3.mirror (i:=lo) (j:=lo+x) (EI _) (by lia)
     have km:=oM (key:=key) (xs:=FC st3) (i:=lo) (j:=lo+x) (by lia)
     have up4:Up key (FC (setArr st3 (mirror (FC st3) lo (lo+x) ((lo+x-lo)/2)))) lo x:=λi j k1 k2 k3=>by
      show O.kle (kk key (mirror (FC st3) lo (lo+x) ((lo+x-lo)/2)) i) (kk key (mirror (FC st3) lo (lo+x) ((lo+x-lo)/2)) j)
      rw[km,km,if_pos ⟨by lia,by lia⟩,if_pos ⟨by lia,by lia⟩]
      exact dn3 _ _ (by lia) (by lia) (by lia)
     generalize setArr st3 (mirror (FC st3) lo (lo+x) ((lo+x-lo)/2))=st4 at sa4 up4 ⊢
     clear km
     have u4:∀p∈(FC st4).toList,U p:=λp hp=>hu p (sa4.mem hp)
     have sz4:=sa4.size
     refine Gm (Lr (Jd (I:=λz c st'=>st4=st'/\c=(none,z)/\z<=m/\Up key (FC st4) lo z)
      (Q:=λc st'=>st4=st'/\∃z,c=(none,z)/\1<=z/\z<=m/\Up key (FC st4) lo z) ?step ?fin ⟨rfl,rfl,xm,up4⟩) ?post)
     case fin =>
      rintro c st' ⟨rfl,rfl,zm,up⟩
      exact ⟨rfl,_,rfl,by lia,zm,up⟩
     case post =>
      rintro c st' ⟨rfl,z,rfl,z1,zm,up⟩
      exact Hc (h z st4 z1 zm sa4 up)
     case step =>
      rintro z c st' h1 h2 ⟨rfl,rfl,zm,up⟩
      dsimp only
      refine Gm (iy C (sa4.k.trans hκ) u4 (by lia) (by lia) ?_)
      dsimp only
      cases hb:O.blt (kk key (FC st4) (lo+z)) (kk key (FC st4) (lo+z-1)) with
      | true =>
       rw[if_pos rfl]
       exact Hc ⟨rfl,z,rfl,by lia,zm,up⟩
      | false =>
       rw[if_neg (by simp)]
       refine Hc ⟨rfl,rfl,by lia,λi j k1 k2 k3 =>?_⟩
       by_cases hj:j=lo+z
       ·by_cases hi:i=j
        ·rw[hi];exact Hs _
        ·rw[hj];exact IQ (up i (lo+z-1) k1 (by lia) (by lia)) hb
       ·exact up i j k1 k2 (by lia)
theorem oN {xs:Array IL}{src d:Nat}(hs:src<xs.size)(hd:d<=src)(k:Nat) :
  kk key (bubble xs src d) k=if k=src-d then kk key xs src else if src-d<k/\k<=src then kk key xs (k-1) else kk key xs k:=by
 have e:=getElem?_bubble hs d hd k
 by_cases h1:k=src-d
 ·rw[if_pos h1] at e ⊢;exact jK e
 ·rw[if_neg h1] at e ⊢
  by_cases h2:src-d<k/\k<=src
  ·rw[if_pos h2] at e ⊢;exact jK e
  ·rw[if_neg h2] at e ⊢;exact jK e
theorem SA.bubble {lo:Nat}{st st':Ir}(h:SA lo st st'){src d:Nat}(hs:src<(FC st').size)(hd:lo+d<=src):SA lo st (setArr st' (bubble (FC st') src d)) :=
 ⟨(bubble_perm _ _ _).trans h.perm,λk hk=>by
  show (PyProof.Rows.bubble (FC st') src d)[k]? = _
  rw[getElem?_bubble hs d (by lia),if_neg (by lia),if_neg (by lia)]
  exact h.pre k hk,h.k,h.p,h.f⟩
theorem yX (C:Cmp prog w A s O key U κ){st:Ir}{lo n ok:Nat}{Q:Bool->Ir->Prop}(hκ:kindOf st=κ)(hu:∀p∈(FC st).toList,U p)(hn:lo+n<=(FC st).size)(hok:ok<=n)(up:Up key (FC st) lo ok)
  (h:∀st',SA lo st st'->Up key (FC st') lo n->Q true st'):wpS (Fq prog w) A E s (yU lo n ok) Q st:=by
 rw[yW]
 dsimp only
 refine Gm (Lr (Jd (I:=λx c st'=>c=(none,())/\SA lo st st'/\Up key (FC st') lo (min x n)) (Q:=λc st'=>c=(none,())/\SA lo st st'/\Up key (FC st') lo n) ?step ?fin ⟨rfl,SA.refl _ _,λi j k1 k2 k3 =>?_⟩) ?post)
 case post =>
  rintro c st' ⟨rfl,sa,up⟩
  exact Hc (h st' sa up)
 case fin =>
  rintro c st' ⟨rfl,sa,up⟩
  refine ⟨rfl,sa,?_⟩
  rw[show min (max (max ok 1) n) n=n by lia] at up
  exact up
 case step =>
  rintro k c st1 h1 h2 ⟨rfl,sa1,up1⟩
  rw[show min k n=k by lia] at up1
  have sz:=sa1.size
  have u1:∀p∈(FC st1).toList,U p:=λp hp=>hu p (sa1.mem hp)
  refine Gm (Lr (Jd (I:=λx c st'=>st1=st'/\∃l r,c=(none,l,r)/\l<=r/\r<=k/\r-l<=k-x/\(∀i,i<l->O.kle (kk key (FC st1) (lo+i)) (kk key (FC st1) (lo+k)))/\(∀i,r<=i->i<k->O.klt (kk key (FC st1) (lo+k)) (kk key (FC st1) (lo+i))))
   (Q:=λc st'=>st1=st'/\∃l r,c=(none,l,r)/\l<=k/\(∀i,i<l->O.kle (kk key (FC st1) (lo+i)) (kk key (FC st1) (lo+k)))/\(∀i,l<=i->i<k->O.klt (kk key (FC st1) (lo+k)) (kk key (FC st1) (lo+i)))) ?istep ?ifin ⟨rfl,0,k,rfl,by lia,by lia,by lia,λi hi=>by lia,λi a1 a2=>by lia⟩) ?ipost)
  case ifin =>
   rintro c st' ⟨rfl,l,r,rfl,b1,b2,b3,b4,b5⟩
   have e:l=r:=by lia
   subst e
   exact ⟨rfl,l,l,rfl,b2,b4,b5⟩
  case istep =>
   rintro x c st' _ hx ⟨rfl,l,r,rfl,b1,b2,b3,b4,b5⟩
   dsimp only
   by_cases hge:l≥r
   ·rw[if_pos hge]
    have e:l=r:=by lia
    subst e
    exact Hc ⟨rfl,l,l,rfl,b2,b4,b5⟩
   ·rw[if_neg hge]
    refine Gm (iy C (sa1.k.trans hκ) u1 (by lia) (by lia) ?_)
    dsimp only
    cases hb:O.blt (kk key (FC st1) (lo+k)) (kk key (FC st1) (lo+(l+r)/2)) with
    | true =>
     rw[if_pos rfl]
     exact Hc ⟨rfl,l,(l+r)/2,rfl,by lia,by lia,by lia,b4,λi a1 a2=>KeyOrd.klt_of_klt_of_kle hb (up1 _ _ (by lia) (by lia) (by lia))⟩
    | false =>
     rw[if_neg (by simp)]
     exact Hc ⟨rfl,(l+r)/2+1,r,rfl,by lia,by lia,by lia,λi a1=>IQ (up1 (lo+i) (lo+(l+r)/2) (by lia) (by lia) (by lia)) hb,b5⟩
  case ipost =>
   rintro c st' ⟨rfl,l,r,rfl,b2,b4,b5⟩
   dsimp only
   rw[moveDown'_eq]
   have e:lo+k-(lo+l)=k-l:=by lia
   refine Gm (JQ (Hc ⟨rfl,?_,?_⟩))
   ·rw[e]
    exact sa1.bubble (by lia) (by lia)
   ·rw[show min (k+1) n=k+1 by lia]
    intro i j k1 k2 k3
    show O.kle (kk key (bubble (FC st1) (lo+k) (lo+k-(lo+l))) i) (kk key (bubble (FC st1) (lo+k) (lo+k-(lo+l))) j)
    have lt:lo+k<(FC st1).size:=by lia
    rw[e,oN lt (by lia),oN lt (by lia),show lo+k-(k-l)=lo+l by lia]
    have b4':∀z,lo<=z->z<lo+l->O.kle (kk key (FC st1) z) (kk key (FC st1) (lo+k)):=λz z1 z2=>by
     have:=b4 (z-lo) (by lia)
     rw[show lo+(z-lo)=z by lia] at this
     exact this
    have b5':∀z,lo+l<=z->z<lo+k->O.kle (kk key (FC st1) (lo+k)) (kk key (FC st1) z):=λz z1 z2=>by
     have:=b5 (z-lo) (by lia) (by lia)
     rw[show lo+(z-lo)=z by lia] at this
     exact Km this
    repeat' split
    all_goals first
     | (exfalso;lia)
     | exact Hs _
     | exact b4' _ (by lia) (by lia)
     | exact b5' _ (by lia) (by lia)
     | exact up1 _ _ (by lia) (by lia) (by lia)
 ·by_cases h1:ok=0
  ·rw[show i=j by lia];exact Hs _
  ·exact up i j k1 k2 (by lia)
end
def pwr:Nat->Nat->Nat->Nat->Nat:=sortPriv% PySem.Builtin.power
def mrn:Nat->Nat->Nat->Nat:=sortPriv% PySem.Builtin.minRun
theorem yY:B7=(do
    let sz:=(FC (← get)).size
    let mr:=mrn sz sz 0
    let mut lo:=0
    for _ in [0:sz] do
      if lo≥sz then break
      let some fd ← CK lo (sz-lo)
        | return
      let mut n:=fd
      if n<mr then
        rule "list.sort.binary-insertion"
        let fo:=min (sz-lo) mr
        if !(← yU lo fo n) then return
        n:=fo
      if let some (s1,n1,_):=(Iu (← get)).back? then
        let pw:=pwr sz (2*s1+n1) (2*s1+n1+n1+n) sz
        for _ in [0:sz] do
          let p:=Iu (← get)
          let some (_,_,old):=(if p.size>1 then p[p.size-2]? else none)
            | break
          if old<=pw then break
          if !(← mAt (p.size-2)) then return
        modify λs=>SortSt.mk' (kindOf s) (FC s) ((Iu s).modify ((Iu s).size-1) λ(st,len,_)=>(st,len,pw)) (gallopOf s) (failedOf s)
      modify λs=>SortSt.mk' (kindOf s) (FC s) ((Iu s).push (lo,n,0)) (gallopOf s) (failedOf s)
      lo:=lo+n
    for _ in [0:sz] do
      let p:=Iu (← get)
      if p.size<=1 then break
      let i:=p.size-2
      let bf:=if i>0 then p[i-1]?.map (·.2.1) else none
      let i:=if bf.any (· < (p[i+1]?.elim 0 (·.2.1))) then i-1 else i
      if !(← mAt i) then return):=rfl
theorem w9 {n:Nat}(h1:1<=n)(h:n<64):mrn n n 0=n:=by
 match n,h1,h with
 | k+1,_,h =>
  show (if k+1<64 then k+1+0 else _)=k+1
  rw[if_pos h]
section
variable  {prog:EV}{w:Fm}{A:FN}{E:EB->EG->Prop}{s:EG}{O:Ln}{key:IL->O.α}{U:IL->Prop}{κ:SortKind}
theorem xa {xs:Array IL}{lo n:Nat}(h:Up key xs lo n):((xs.toList.drop lo).take n).Pairwise (Le key):=by
 refine IP.mpr λi j hi hj hij =>?_
 have get:∀k (hk:k<((xs.toList.drop lo).take n).length),key ((xs.toList.drop lo).take n)[k]=kk key xs (lo+k)/\k<n:=λk hk=>by
  have hk':=hk
  rw[Fz] at hk'
  refine ⟨?_,by lia⟩
  have e:((xs.toList.drop lo).take n)[k]? = xs[lo+k]? := by
   rw[LZ,if_pos (by lia),Ht,FO]
  rw[EA hk] at e
  unfold kk
  rw[<- e];rfl
 obtain ⟨e1,l1⟩:=get i hi
 obtain ⟨e2,l2⟩:=get j hj
 show O.kle (key _) (key _)
 rw[e1,e2]
 exact h _ _ (by lia) (by lia) (by lia)
theorem yZ (C:Cmp prog w A s O key U κ){a0:List IL}{st:Ir}{Q:Unit->Ir->Prop}(hu:∀p∈a0,U p)(ha:(FC st).toList=a0)(hp:Iu st = #[])(hk:kindOf st=κ)(hf:failedOf st=none)(h1:1<=a0.length)(h64:a0.length<64)
  (h:∀st',(FC st').toList.Perm a0->(FC st').toList.Pairwise (Le key)->failedOf st'=none->Q () st'):wpS (Fq prog w) A E s B7 Q st:=by
 rw[yY]
 refine Gm (My ?_)
 dsimp only
 have sz0:(FC st).size=a0.length:=by rw[<- E3,ha]
 have mr:=w9 (n:=(FC st).size) (by lia) (by lia)
 have uS:∀{st':Ir},SA 0 st st'->∀p∈(FC st').toList,U p:=λsa p hp=>hu p (ha ▸ sa.mem hp)
 refine Gm (Lr (Jd (I:=λx c st'=>(x=0/\c=(none,0)/\st'=st)\/(c=(none,(FC st).size)/\(FC st').Perm (FC st)/\Up key (FC st') 0 (FC st).size/\(Iu st').size<=1/\kindOf st'=κ /\ failedOf st'=none)) (Q:=λc st'=>c=(none,(FC st).size)/\(FC st').Perm (FC st)/\Up key (FC st') 0 (FC st).size/\(Iu st').size<=1/\kindOf st'=κ /\ failedOf st'=none) ?step ?fin (.inl ⟨rfl,rfl,rfl⟩)) ?post)
 case fin =>
  rintro c st' (⟨e,_,_⟩ | q)
  ·lia
  ·exact q
 case post =>
  rintro c st1 ⟨rfl,sa,up,ps,kd,fl⟩
  dsimp only
  refine Gm (Lr (Jd (I:=λ_ c st'=>c=(none,())/\st'=st1) (Q:=λc st'=>c=(none,())/\st'=st1) ?stepB (λc st' q=>q) ⟨rfl,rfl⟩) ?postB)
  case stepB =>
   rintro x c st' _ hx ⟨rfl,rfl⟩
   refine Gm (My ?_)
   rw[if_pos ps]
   exact Hc ⟨rfl,rfl⟩
  case postB =>
   rintro c st' ⟨rfl,rfl⟩
   have srt:=xa up
   rw[Jt,Fv (by rw[E3,sa.size_eq];exact EI _)] at srt
   exact Hc (h st' (by rw[<- ha];exact J8.mp sa) srt fl)
 case step =>
  rintro x c st1 _ hx (⟨rfl,rfl,rfl⟩ | ⟨rfl,q⟩)
  ·dsimp only
   rw[if_neg (by lia)]
   refine Gm (A4 C hk (λp hp=>hu p (ha ▸ hp)) (by lia) (by lia) λn st2 n1 n2 sa2 up2 =>?_)
   dsimp only
   have kd2:kindOf st2=κ:=sa2.k.trans hk
   have s2:=sa2.size
   have n2':n<=(FC st1).size:=by lia
   have pend:∀{st3:Ir},SA 0 st1 st3->(Iu st3).back? = none:=λsa=>by rw[sa.p,hp];rfl
   have push:∀{st3:Ir} {z:Nat×Nat×Nat},SA 0 st1 st3->(((Iu st3).push z).size<=1):=λsa=>by rw[sa.p,hp];exact EI _
   rw[mr]
   by_cases cm:n<(FC st1).size
   ·rw[if_pos cm]
    refine Gm (Nv (HC ⟨rfl,?_⟩))
    rw[show min ((FC st1).size-0) (FC st1).size=(FC st1).size by lia]
    refine Gm (yX C kd2 (uS sa2) (by lia) (by lia) up2 λst3 sa3 up3 =>?_)
    simp only[Hl,Fc,if_false]
    have sa:SA 0 st1 st3:=⟨sa3.perm.trans sa2.perm,λk hk=>absurd hk (HZ k),sa3.k.trans sa2.k,sa3.p.trans sa2.p,sa3.f.trans sa2.f⟩
    refine Gm (My ?_)
    rw[pend sa]
    dsimp only
    exact Gm (JQ (Hc (.inr ⟨by rw[JA],sa.perm,up3,push sa,sa.k.trans hk,sa.f.trans hf⟩)))
   ·rw[if_neg cm]
    have en:n=(FC st1).size:=by lia
    refine Gm (My ?_)
    rw[pend sa2]
    dsimp only
    exact Gm (JQ (Hc (.inr ⟨by rw[JA,en],sa2.perm,by rw[<- en];exact up2,push sa2,kd2,sa2.f.trans hf⟩)))
  ·dsimp only
   rw[if_pos (EI _)]
   exact Hc ⟨rfl,q⟩
end
structure me (prog:EV)(w:Fm)(s:EG)(vs:List EB)(O:Ln)(key:EB->O.α):Prop where
 ok:2<=vs.length->∀(A:FN) (h6:Heap),(∀b o,s.heap.get? b=some o->h6.get? b=some o)->∃κ,(∀(Q:SortKind->EG->Prop) (E:EB->EG->Prop),Q κ { s with heap:=h6 }->E4 (Fq prog w) A (keyKind' vs.toArray) Q E { s with heap:=h6 }) ∧
  Cmp prog w A { s with heap:=h6 } O (λp=>key p.1) (λp=>p.1=p.2/\p.1∈vs) κ
section
variable  {prog:EV}{w:Fm}{A:FN}{E:EB->EG->Prop}{s:EG}{O:Ln}{key:EB->O.α}
theorem zs:∀vs:List EB,(vs.zip vs).map (·.2)=vs
 | []=>rfl
 | v :: vs=>by rw[Jg,EZ,zs vs]
theorem rG {l:List IL}{vs:List EB}(h:l.Perm (vs.zip vs)):(l.map (·.2)).Perm vs/\∀p∈l,p.1=p.2/\p.1∈vs:=by
 have e:=zs vs
 refine ⟨by have:=h.map (·.2);rw[e] at this;exact this,λp hp =>?_⟩
 have m:=h.mem_iff.mp hp
 obtain ⟨i,hi⟩:=Hr.mp m
 rw[IM] at hi
 have e1:=hi.1.symm.trans hi.2
 exact ⟨EX e1,EH hi.1⟩
theorem iV {a:Addr}{vs:List EB}{n:Nat}{P:Fin->EG->Prop}(ho:s.heap.get? a=some (seqObj "list" vs.toArray n))(hz:vs.length<=ES)(h64:vs.length<64)
    (hc:2<=vs.length->∀h6,(∀b o,b≠a->s.heap.get? b=some o->h6.get? b=some o)->∃κ,(∀(Q:SortKind->EG->Prop) (E:EB->EG->Prop),Q κ { s with heap:=h6 }->E4 (Fq prog w) A (keyKind' vs.toArray) Q E { s with heap:=h6 }) ∧
      Cmp prog w A { s with heap:=h6 } O (λp=>key p.1) (λp=>p.1=p.2/\p.1∈vs) κ)
    (h:∀out:List EB,out.Perm vs->out.Pairwise (λx y=>O.kle (key x) (key y))->P (.done (.ret .none)) { s with heap:=sortedHeap s.heap a vs out.toArray }):E4 (Fq prog w) A (Builtin.«list.sort» ⟨[.ref a],[]⟩) P E s:=by
  rw[list_sort_plain]
  have ha:a<s.heap.objs.size:=EN ho
  refine Ew (MF ho rfl ?_)
  refine Ew (Ma ho rfl ?_ (by rw[EM];exact hz) (FE _))
  obtain ⟨e1,ho1⟩:∃e1,(s.heap.update a (He λ_ => #[])).get? a=some (seqObj "list" #[] e1):=⟨_,get?_update_seq ho (λ_ => #[])⟩
  refine Ew (seqEpoch_at ho1 rfl (Ew (wpAny_newTuple ?_ (by exact hz))))
  refine Ew (KL ?_ (FE _))
  refine F0 ?_
  generalize hH:((s.heap.update a (He λ_ => #[])).push (seqObj "tuple" vs.toArray 0)).push (seqObj "list" #[] 0)=h6
  have kp:∀b o,b≠a->s.heap.get? b=some o->h6.get? b=some o:=λb o nb e=>by
    rw[<- hH]
    refine Ey _ (Ey _ ?_)
    rw[LJ _ _ _ _ nb]
    exact e
  have ho6:h6.get? a=some (seqObj "list" #[] e1):=by
    rw[<- hH]
    exact Ey _ (Ey _ ho1)
  have eH:∀out:List EB,sortedHeap s.heap a vs out.toArray=h6.update a (He λ_=>out.toArray):=λout=>by rw[<- hH];rfl
  have go:∀st':Ir,(FC st').toList.Perm (vs.zip vs)->(FC st').toList.Pairwise (λp q=>O.kle (key p.1) (key q.1))->failedOf st'=none →
      E4 (Fq prog w) A (do
        let sorted:=(FC st').map (·.2)
        let touched:=(← seqEpoch a) != e1
        Builtin.List.listUpdate (.ref a) λ_=>sorted
        if let some e:=failedOf st' then rule "list.sort.comparison-raised";throw e
        if touched then rule "list.sort.modified";raiseError "ValueError" "list modified during sort"
        ret .none) P E { s with heap:=h6 }:=by
    intro st' pm ps hf
    obtain ⟨z1,z2⟩:=rG pm
    have em:(FC st').map (·.2)=((FC st').toList.map (·.2)).toArray:=by
      apply MI.mp
      rw[JG]
    dsimp only
    refine Ew (seqEpoch_at ho6 rfl ?_)
    refine Ew (Ma ho6 rfl ?_ (FE _) (by rw[FL, <- E3,pm.length_eq,K8,Ke];lia))
    rw[hf]
    simp only[bne_self_eq_false,Fc,if_false]
    refine EC ?_
    rw[em, <- eH]
    refine h _ z1 (Gq.mpr (ps.imp_of_mem λ{p q} hp hq le =>?_))
    rw[<- (z2 p hp).1, <- (z2 q hq).1]
    exact le
  by_cases h2:vs.toArray.size<2
  · rw[if_pos h2,if_pos h2]
    refine Ew (EC ?_)
    dsimp only
    rw[StateT.run_pure]
    refine Ew (EC ?_)
    refine go (SortSt.mk' general' (vs.toArray.zip vs.toArray) #[] 7 none) (by show (vs.toArray.zip vs.toArray).toList.Perm _;simp) ?_ rfl
    rw[EM] at h2
    have et:(vs.toArray.zip vs.toArray).toList=vs.zip vs:=by simp
    show (vs.toArray.zip vs.toArray).toList.Pairwise (λ(p q:IL)=>O.kle (key p.1) (key q.1))
    rw[et]
    have short:∀us:List EB,us.length<2->(us.zip us).Pairwise (λ(p q:IL)=>O.kle (key p.1) (key q.1)):=λus hu=>by
      match us,hu with
      | [],_=>exact List.Pairwise.nil
      | [v],_=>exact Kx _ _
      | _ :: _ :: _,hu=>simp only[Fg] at hu;lia
    exact short vs h2
  · rw[if_neg h2,if_neg h2]
    rw[EM] at h2
    obtain ⟨κ,k1,C⟩:=hc (by lia) h6 kp
    refine Ew (k1 _ _ ?_)
    have et:(vs.toArray.zip vs.toArray).toList=vs.zip vs:=by simp
    refine Ew (Hh (yZ C (E:=E) (a0:=vs.zip vs) (st:=SortSt.mk' κ (vs.toArray.zip vs.toArray) #[] 7 none)
      (Q:=λ_ st'=>(FC st').toList.Perm (vs.zip vs)/\(FC st').toList.Pairwise (Le λ(p:IL)=>key p.1)/\failedOf st'=none)
      (rG (LH _)).2 et rfl rfl rfl (by rw[K8,Ke];lia) (by rw[K8,Ke];exact h64) λst' a1 a2 a3=>⟨a1,a2,a3⟩) ?_ λ_ _ e=>e)
    rintro ⟨⟨⟩,st'⟩ s' ⟨rfl,hp,hs,hf⟩
    exact go st' hp hs hf
def rH (prog:EV)(w:Fm)(s:EG)(v:EB)(vs:List EB):Prop :=
 ∀(A:FN) (E:EB->EG->Prop) (R:List EB->EG->Prop),(∀h1,(∀b o,s.heap.get? b=some o->h1.get? b=some o)->s.heap.objs.size<=h1.objs.size->R vs { s with heap:=h1 })->E4 (Fq prog w) A (collect v) R E s
theorem mS {v:EB}{vs:List EB}{Q:EB->EG->Prop}(hv:rH prog w s v vs)(hz:vs.length<=ES)(h64:vs.length<64)(C:me prog w s vs O key)
  (h:∀(h':Heap) (p:Addr) (out:List EB) (n:Nat),(∀b o,s.heap.get? b=some o->h'.get? b=some o)->s.heap.objs.size<=p->h'.get? p=some (seqObj "list" out.toArray n)->out.Perm vs->out.Pairwise (λx y=>O.kle (key x) (key y))->Q (.ref p) { s with heap:=h' }) :
  E4 (Fq prog w) A (call (.builtin "sorted") [v]) Q E s:=by
 refine Ki kind_sorted plain_sorted entry_sorted (args_sorted1 _) ?_
 unfold Builtin.«sorted»
 refine Ew (m:=checkCount "sorted" 1 1 _) (EC ?_)
 refine Ew (hv _ _ _ λh1 k1 z1=>Ew (KL ?_ hz))
 have hoL:(h1.push (seqObj "list" vs.toArray 0)).get? h1.objs.size=some (seqObj "list" vs.toArray 0):=EK _ rfl
 have kL:∀b o,s.heap.get? b=some o->(h1.push (seqObj "list" vs.toArray 0)).get? b=some o:=λb o e=>Ey _ (k1 b o e)
 refine Ew (F0 (FX slot_list_sort ⟨_,hoL,rfl⟩ entry_list_sort (iV (key:=key) (O:=O) hoL hz h64 (λh2 h6 k6 =>?_) λout pm ps=>⟨_,rfl,?_⟩) (args_list_sort _)))
 ·exact C.ok h2 _ h6 λb o e=>k6 b o (EY (EL (EN e) z1)) (kL b o e)
 ·obtain ⟨n,en⟩:=sortedHeap_at (out:=out.toArray) hoL
  refine EC ⟨_,rfl,h _ _ out n (λb o e =>?_) z1 en pm ps⟩
  have lt:=EL (EN e) z1
  rw[sortedHeap_old (EY lt) (by rw[Np];exact FV lt)]
  exact kL b o e
theorem jL {l:Addr}{o:Obj}{vs:List EB}{n:Nat}(ho:s.heap.get? l=some o)(hc:o.cls = .type "list" \/ o.cls = .type "tuple")(hd:o.data = .seq vs.toArray n)(hz:vs.length<=ES):rH prog w s (.ref l) vs:=by
  intro A E R h
  unfold collect
  refine Ew (Jw (FR entry_proto_collect' ?_))
  show E4 _ _ (do again (.builtin "list.__iadd__" ⟨[<- newList [],.ref l],[]⟩)) _ _ s
  refine Ew (KL (EC ⟨Kf _ (by decide +kernel),FR entry_list_iadd' ?_⟩))
  show E4 _ _ (Gr (.ref s.heap.objs.size) (.ref l) (.ref s.heap.objs.size)) _ _ { s with heap:=s.heap.push (seqObj "list" #[] 0) }
  unfold Gr
  have ho':(s.heap.push (seqObj "list" #[] 0)).get? l=some o:=Ey _ ho
  have cond:∀T,o.cls = .type T->(T = "list" \/ T = "tuple")->E4 (Fq prog w) A (typeOf (.ref l)) (λt s'=>t = .type T/\s'={ s with heap:=s.heap.push (seqObj "list" #[] 0) }) E { s with heap:=s.heap.push (seqObj "list" #[] 0) }:=λT e _=>HR (T:=T) ⟨o,ho',e⟩ ⟨rfl,rfl⟩
  obtain ⟨T,eT,hT⟩:∃T,o.cls = .type T/\(T = "list" \/ T = "tuple"):=by
    rcases hc with hc | hc
    · exact ⟨_,hc,.inl rfl⟩
    · exact ⟨_,hc,.inr rfl⟩
  refine Ew (HR (T:=T) ⟨o,ho',eT⟩ ?_)
  rw[if_pos (by rcases hT with rfl | rfl <;> simp)]
  refine Ew (MF ho' hd ?_)
  refine Ew (MF (xs := #[]) (n:=0) (EK _ rfl) rfl ?_)
  rw[if_neg (by simp)]
  refine Ew (Ma (xs := #[]) (n:=0) (EK _ rfl) rfl ?_ (FE _) (by show (#[]++vs.toArray).size<=ES+1;simp only[Array.size_append,EM,G9];lia))
  refine EC ?_
  show E4 (Fq prog w) A (do
      let o ← load s.heap.objs.size
      match o.data with
      | .seq xs _=>pure xs.toList
      | _=>unsupported "internal:collect") R E { s with heap:=(s.heap.push (seqObj "list" #[] 0)).update s.heap.objs.size (He (· ++ vs.toArray)) }
  refine Ew (Mv (get?_update_seq (EK _ rfl) _) ?_)
  show E4 _ _ (pure ((#[]:Array EB)++vs.toArray).toList) R E _
  rw[show ((#[]:Array EB)++vs.toArray).toList=vs by simp]
  refine EC (h _ (λb ob e =>?_) ?_)
  · rw[LJ _ _ _ _ (EY (EN e))]
    exact Ey _ e
  · rw[Heap.size_update,Np]
    exact JU _
end
def CL:Ln where
 α:=Int
 blt:=λa b=>decide (a<b)
 irrefl:=λa=>by simp
 trans:=λa b c h1 h2=>by simp at *;lia
 negTrans:=λa b c h=>by simp at *;lia
 total:=λa b h1 h2=>by simp at *;lia
theorem lex_irrefl:∀a,HT.lexLt a a=false
 | []=>rfl
 | x :: xs=>by rw[HT.dM,if_pos rfl];exact lex_irrefl xs
theorem lex_trans:∀a b c,HT.lexLt a b=true->HT.lexLt b c=true->HT.lexLt a c=true
 | [],[],_,h,_=>by cases h
 | [],_ :: _,[],_,h=>by cases h
 | [],_ :: _,_ :: _,_,_=>rfl
 | _ :: _,[],_,h,_=>by cases h
 | _ :: _,_ :: _,[],_,h=>by cases h
 | x :: xs,y :: ys,z :: zs,h1,h2=>by
  rw[HT.dM] at *
  by_cases e1:x=y
  ·subst e1
   rw[if_pos rfl] at h1
   by_cases e2:x=z
   ·rw[if_pos e2] at h2 ⊢
    exact lex_trans xs ys zs h1 h2
   ·rw[if_neg e2] at h2 ⊢
    exact h2
  ·rw[if_neg e1] at h1
   have l1:=of_decide_eq_true h1
   by_cases e2:y=z
   ·subst e2
    rw[if_neg e1]
    exact h1
   ·rw[if_neg e2] at h2
    have l2:=of_decide_eq_true h2
    rw[if_neg (by omega)]
    exact decide_eq_true (by omega)
theorem ky:∀a b,HT.lexLt a b=false->HT.lexLt b a=false->a=b
 | [],[],_,_=>rfl
 | [],_ :: _,h,_=>by cases h
 | _ :: _,[],_,h=>by cases h
 | x :: xs,y :: ys,h1,h2=>by
  rw[HT.dM] at *
  by_cases e:x=y
  ·subst e
   rw[if_pos rfl] at h1 h2
   rw[ky xs ys h1 h2]
  ·rw[if_neg e] at h1
   rw[if_neg (Gn e)] at h2
   have a1:=of_decide_eq_false h1
   have a2:=of_decide_eq_false h2
   omega
theorem A5 (a b c:List Int)(h:HT.lexLt a c=true):HT.lexLt a b=true\/HT.lexLt b c=true:=by
 cases h1:HT.lexLt a b with
 | true=>exact .inl rfl
 | false =>
  right
  cases h2:HT.lexLt b a with
  | true=>exact lex_trans b a c h2 h
  | false=>rw[<- ky a b h1 h2];exact h
def lexOrd:Ln where
 α:=List Int
 blt:=HT.lexLt
 irrefl:=lex_irrefl
 trans:=lex_trans
 negTrans:=A5
 total:=ky
def intOf:EB->Int
 | .int i _=>i
 | _=>0
section
variable  {prog:EV}{w:Fm}{A:FN}{E:EB->EG->Prop}{s:EG}
theorem jM:∀{vs:List EB} {ns:List Int},Hj vs ns->∀v∈vs,∃i t,v = .int i t
 | _,_,.nil,v,h=>by cases h
 | _,_,.cons n t r,v,h=>by
  rcases EW.mp h with e | e
  ·exact ⟨n,t,e⟩
  ·exact jM r v e
theorem qc {vs:List EB}{ns:List Int}(hI:Hj vs ns):me prog w s vs CL intOf:=by
 refine ⟨λh2 A h6 _=>⟨oneType',λQ E q =>?_,⟨λE st x y Q hk hx hy q =>?_⟩⟩⟩
 ·match vs,h2,hI with
  | v1 :: v2 :: rest,_,hI =>
   rw[keyKind_ints hI]
   exact EC q
  | [],h2,_=>simp at h2
  | [_],h2,_=>simp at h2
 ·obtain ⟨i,t,e1⟩:=jM hI _ hx.2
  obtain ⟨j,u,e2⟩:=jM hI _ hy.2
  rw[lt'_eq]
  refine Gm (My ?_)
  rw[hk,keyLt'_oneType,e1,e2]
  refine Gm (Nv (Hz (oneLt_int ⟨rfl,?_⟩)))
  refine Hc ?_
  have q':Q (some (decide (intOf x.1<intOf y.1))) st:=q
  rw[e1,e2] at q'
  exact q'
def di (h:Heap)(v:EB):List Int:=match v with
 | .ref p=>match h.get? p with
  | some o=>match o.data with
   | .seq xs _=>xs.toList.map intOf
   | _=>[]
  | none=>[]
 | _=>[]
def dR (h:Heap)(v:EB)(ns:List Int):Prop:=∃p o xs n,v = .ref p/\h.get? p=some o/\o.cls = .type "tuple" /\ o.data = .seq xs n/\Hj xs.toList ns
theorem ints_map:∀{vs:List EB} {ns:List Int},Hj vs ns->vs.map intOf=ns
 | _,_,.nil=>rfl
 | _,_,.cons n t r=>by rw[EZ,ints_map r];rfl
theorem dR.ints {h:Heap}{v:EB}{ns:List Int}(x:dR h v ns):di h v=ns:=by
 obtain ⟨p,o,xs,n,rfl,e,_,d,r⟩:=x
 unfold di
 dsimp only
 rw[e]
 dsimp only
 rw[d]
 exact ints_map r
theorem dR.keeps {h h':Heap}{v:EB}{ns:List Int}(x:dR h v ns)(k:∀b o,h.get? b=some o->h'.get? b=some o):dR h' v ns:=by
 obtain ⟨p,o,xs,n,rfl,e,r⟩:=x
 exact ⟨p,o,xs,n,rfl,k _ _ e,r⟩
theorem rJ {fin:Bool}{Q:Bool->EG->Prop}:∀{us ws:List EB} {ns ms:List Int} (i:Nat),Hj us ns->Hj ws ms->(fin=true↔(decide (ns.length<ms.length)=true))->Q (HT.lexLt ns ms) s →
  PySem.W.KatLex prog w A true fin Q (us.zip ws) i s
 | _,_,_,_,i,.nil,.nil,hf,q=>by
  refine K9 ?_
  have e:fin=false:=by cases fin with
   | false=>rfl
   | true=>have:=hf.mp rfl;simp at this
  rw[e];exact q
 | _,_,_,_,i,.nil,.cons _ _ _,hf,q=>by
  refine K9 ?_
  have e:fin=true:=hf.mpr (by simp)
  rw[e];exact q
 | _,_,_,_,i,.cons _ _ _,.nil,hf,q=>by
  refine K9 ?_
  have e:fin=false:=by cases fin with
   | false=>rfl
   | true=>have:=hf.mp rfl;simp at this
  rw[e];exact q
 | _,_,_,_,i,.cons (ns:=ns) a t r,.cons (ns:=ms) c u r',hf,q=>by
  rw[Jg]
  refine PySem.W.kat_cons (wpAny_eqBool_int ?_)
  rw[HT.dM] at q
  by_cases e:a=c
  ·rw[if_pos e] at q
   rw[beq_iff_eq.mpr e]
   exact PySem.W.kat_yes (rJ (i+1) r r' (by rw[hf];simp) q)
  ·rw[if_neg e] at q
   rw[beq_eq_false_iff_ne.mpr e]
   refine PySem.W.kat_no ?_
   by_cases i0:(true && i == 0)=true
   ·rw[i0]
    exact oneLt_int q
   ·rw[G0.mpr i0,oneLt'_eq]
    simp only[Fc,if_false]
    refine Ew (HT.rq _ _ a t c u prog w _ _ ?_)
    exact Gg q
theorem mU {h:Heap}:∀{vs:List EB},(∀v∈vs,∃ns,dR h v ns/\ns≠[])->∃fs,PySem.W.KatTups h vs fs/\fs.length=vs.length/\∀f∈fs,∃i t,f = .int i t
 | [],_=>⟨[],trivial,rfl,λf hf=>by cases hf⟩
 | v :: vs,hv=>by
  obtain ⟨fs,t,l,hf⟩:=mU λu hu=>hv u (E8 _ hu)
  obtain ⟨ns,⟨p,o,xs,n,rfl,e,c,d,r⟩,ne⟩:=hv v E7
  have hx:∃i t,xs[0]? = some (.int i t):=by
   rw[<- FO]
   generalize xs.toList=l at r
   cases r with
   | nil=>exact absurd rfl ne
   | cons i t r=>exact ⟨i,t,rfl⟩
  obtain ⟨i,t',hx⟩:=hx
  exact ⟨.int i t' :: fs,Nz e c d hx t,by rw[Fg,Fg,l],λf hf'=>by
   rcases EW.mp hf' with q | q
   ·exact ⟨i,t',q⟩
   ·exact hf f q⟩
theorem jN {vs:List EB}(hv:∀v∈vs,∃ns,dR s.heap v ns/\ns≠[]):me prog w s vs lexOrd (di s.heap):=by
 refine ⟨λh2 A h6 k6=>⟨tuples' true,λQ E q =>?_,⟨λE st x y Q hk hx hy q =>?_⟩⟩⟩
 ·obtain ⟨fs,t,l,hf⟩:=mU (h:=h6) (vs:=vs) λv hv'=>by
   obtain ⟨ns,i,ne⟩:=hv v hv'
   exact ⟨ns,i.keeps k6,ne⟩
  refine PySem.W.kat_kind (T :=.type "int") t (by lia) (λf hf' =>?_) rfl q
  obtain ⟨i,t',rfl⟩:=hf f hf'
  exact Nx rfl
 ·obtain ⟨ns,i1,_⟩:=hv _ hx.2
  obtain ⟨ms,i2,_⟩:=hv _ hy.2
  have q':Q (some (HT.lexLt (di s.heap x.1) (di s.heap y.1))) st:=q
  rw[i1.ints,i2.ints] at q'
  obtain ⟨p1,o1,xs1,n1,e1,g1,c1,d1,r1⟩:=i1.keeps k6
  obtain ⟨p2,o2,xs2,n2,e2,g2,c2,d2,r2⟩:=i2.keeps k6
  rw[lt'_eq]
  refine Gm (My ?_)
  rw[hk,e1,e2]
  have l1:=r1.length
  have l2:=r2.length
  refine Gm (Nv (Hz (PySem.W.kat_lt g1 d1 g2 d2 (rJ 0 r1 r2 ?_ ⟨rfl,?_⟩))))
  ·rw[<- l1, <- l2,E3,E3]
  ·exact Hc q'
end
end Srt
namespace L2
open PySem PySem.Spec PyProof.Rows
theorem mV {α β:Type}{f:α -> β}:∀{l:List β} {m:List α},l.Perm (m.map f)->∃m':List α,m'.Perm m/\l=m'.map f:=by
 intro l m h
 generalize hk:m.map f=k at h
 induction h generalizing m with
 | nil =>
  have:m=[]:=List.map_eq_nil_iff.mp hk
  exact ⟨[],by rw[this],rfl⟩
 | cons x _ ih =>
  match m,hk with
  | y :: m,hk =>
   rw[EZ] at hk
   injection hk with h1 h2
   obtain ⟨m',p,e⟩:=ih h2
   exact ⟨y :: m',p.cons y,by rw[EZ, <- e,h1]⟩
  | [],hk=>cases hk
 | swap x y l =>
  match m,hk with
  | a :: b :: m,hk =>
   rw[EZ,EZ] at hk
   injection hk with h1 h2
   injection h2 with h2 h3
   exact ⟨b :: a :: m,List.Perm.swap a b m,by rw[EZ,EZ,h1,h2,h3]⟩
  | [],hk=>cases hk
  | [_],hk=>simp at hk
 | trans _ _ ih1 ih2 =>
  obtain ⟨m',p,e⟩:=ih2 hk
  obtain ⟨m'',p',e'⟩:=ih1 e.symm
  exact ⟨m'',p'.trans p,e'⟩
theorem cQ:∀{ns:List Int} {us:List EB},Vals (ns.map V.int) us->Hj us ns:=λr=>intsAre_of r
theorem jP:∀{us:List EB} {ns:List Int},Hj us ns->Vals (ns.map V.int) us:=λr=>kx r
theorem kz:∀{us:List EB},(∀u∈us,∃i t,u=GO i t)->Hj us (us.map Srt.intOf)
 | [],_ =>.nil
 | u :: us,h=>by
  obtain ⟨i,t,e⟩:=h u E7
  subst e
  exact .cons i t (kz λv hv=>h v (E8 _ hv))
theorem fq:∀{α:Type} {f:α -> Addr} {ps:List α} {us:List EB},Vals (ps.map λx=>V.ref (f x)) us->us=ps.map λx=>E2 (f x)
 | _,_,[],_,r=>by cases r;rfl
 | _,f,p :: ps,_,r=>by
  cases r with
  | cons h t=>rw[EZ, <- fq t,show _=E2 (f p) from h]
theorem iz {α:Type}{f:α -> Addr}:∀{ps:List α},Vals (ps.map λx=>V.ref (f x)) (ps.map λx=>E2 (f x))
 | [] =>.nil
 | p :: ps =>.cons rfl iz
section
variable  {X:Cx}
theorem Inv.rK {pins:List (Addr×Obj)}{σ:St}{H:Hp}{s:EG}{p:Addr}{ys:List V}(I:Inv X pins σ H s)(h:SqL X.K H p ys\/SqT X.K H p ys) :
  ∃(its:List EB) (o:Obj) (n:Nat),Vals ys its/\s.heap.get? p=some o/\(o.cls = .type "list" \/ o.cls = .type "tuple")/\o.data = .seq its.toArray n/\ys.length<=ES:=by
 rcases h with h | h
 ·obtain ⟨its,r,⟨o,n,e,c,_,d⟩,z⟩:=I.list h
  exact ⟨its,o,n,r,e,.inl c,d,z⟩
 ·obtain ⟨its,r,⟨o,e,c,n,d⟩,z⟩:=I.tuple h
  exact ⟨its,o,n,r,e,.inr c,d,z⟩
theorem Inv.newList {pins:List (Addr×Obj)}{σ:St}{H:Hp}{s:EG}{h':Heap}{p:Addr}{ys:List V}{its:List EB}{n:Nat}(I:Inv X pins σ H s)(k:∀b o,s.heap.get? b=some o->h'.get? b=some o)(hp:s.heap.objs.size<=p)
  (e:h'.get? p=some { cls :=.type "list",data :=.seq its.toArray n }) (r:Vals ys its) (hz:ys.length<=ES):Inv X pins σ (upd H p (.lst ys)) { s with heap:=h' } :=
 I.laid (t':=s.toks) k hp ⟨hz,its,n,r,e⟩
theorem qd:bD X (.builtin "sorted") (λxs H Q=>∃(p:Addr) (ns:List Int),xs=[.ref p]/\(SqL X.K H p (ns.map V.int)\/SqT X.K H p (ns.map V.int))/\ns.length<64/\∀(l:Addr) (out:List Int),H l=none->out.Perm ns->out.Pairwise (· <= ·)->Q (.ref l) (upd H l (.lst (out.map V.int)))):=by
 intro pins s σ H xs us Q I r h
 obtain ⟨p,ns,rfl,hs,h64,q⟩:=h
 obtain ⟨u,rfl,ru⟩:=vals1 r
 cases (show u=E2 p from ru)
 obtain ⟨its,o,n,rv,e,c,d,z⟩:=I.rK hs
 have hI:=cQ rv
 have lz:its.length<=ES:=by rw[<- rv.length];exact z
 refine Srt.mS (Srt.jL e c d lz) lz (by rw[<- rv.length,Ex];exact h64) (Srt.qc hI) λh' l out m k hl el pm ps =>?_
 have hm:∀v∈out,∃i t,v=GO i t:=λv hv=>Srt.jM hI v (pm.mem_iff.mp hv)
 have hO:=kz hm
 have pm':(out.map Srt.intOf).Perm ns:=by
  have:=pm.map Srt.intOf
  rw[Srt.ints_map hI] at this
  exact this
 refine ⟨.ref l,_,I.newList k hl el (jP hO) (by rw[Ex,pm'.length_eq, <- Ex (f:=V.int)];exact z),rfl,q l _ (I.hok.fresh hl) pm' ?_⟩
 refine Gq.mpr (ps.imp λ{x y} le =>?_)
 have le':decide (Srt.intOf y<Srt.intOf x)=false:=le
 have:=of_decide_eq_false le'
 lia
theorem qe:bD X (.builtin "sorted") (λxs H Q=>∃(p:Addr) (ts:List (Addr×List Int)),xs=[.ref p]/\(SqL X.K H p (ts.map λt =>.ref t.1)\/SqT X.K H p (ts.map λt =>.ref t.1))/\(∀t∈ts,SqT X.K H t.1 (t.2.map V.int)/\t.2≠[])/\ts.length<64 ∧
  ∀(l:Addr) (out:List (Addr×List Int)),H l=none->out.Perm ts->out.Pairwise (λa b=>HT.lexLt b.2 a.2=false)->Q (.ref l) (upd H l (.lst (out.map λt =>.ref t.1)))):=by
 intro pins s σ H xs us Q I r h
 obtain ⟨p,ts,rfl,hs,ht,h64,q⟩:=h
 obtain ⟨u,rfl,ru⟩:=vals1 r
 cases (show u=E2 p from ru)
 obtain ⟨its,o,n,rv,e,c,d,z⟩:=I.rK hs
 have ei:=fq rv
 have lz:its.length<=ES:=by rw[<- rv.length];exact z
 have tup:∀t∈ts,Srt.dR s.heap (E2 t.1) t.2:=λt hm=>by
  obtain ⟨jts,jr,⟨jo,je,jc,jn,jd⟩,_⟩:=I.tuple (ht t hm).1
  exact ⟨t.1,jo,_,jn,rfl,je,jc,jd,by simpa using cQ jr⟩
 have hv:∀v∈its,∃ns,Srt.dR s.heap v ns/\ns≠[]:=λv hv=>by
  rw[ei] at hv
  obtain ⟨t,hm,rfl⟩:=E9.mp hv
  exact ⟨t.2,tup t hm,(ht t hm).2⟩
 refine Srt.mS (Srt.jL e c d lz) lz (by rw[<- rv.length,Ex];exact h64) (Srt.jN hv) λh' l out m k hl el pm ps =>?_
 rw[ei] at pm
 obtain ⟨out',pm',rfl⟩:=mV pm
 refine ⟨.ref l,_,I.newList k hl el iz (by rw[Ex,pm'.length_eq, <- Ex (f:=λt:Addr×List Int=>V.ref t.1)];exact z),rfl,q l _ (I.hok.fresh hl) pm' ?_⟩
 refine (Gq.mp ps).imp_of_mem λ{a b} ha hb le =>?_
 have le':HT.lexLt (Srt.di s.heap (E2 b.1)) (Srt.di s.heap (E2 a.1))=false:=le
 rw[(tup a (pm'.mem_iff.mp ha)).ints,(tup b (pm'.mem_iff.mp hb)).ints] at le'
 exact le'
end
def Tp (H H':Hp):Prop:=∀b xs,H b=some (.tup xs)->H' b=some (.tup xs)
theorem az.tp {H H':Hp}(a:az H H'):Tp H H':=λc u h=>a c _ h
def mnI (a b:Int):Int:=if b<a then b else a
def mxI (a b:Int):Int:=if b>a then b else a
def nrm (a b:Int):List Int:=[mnI a b,mxI a b]
theorem bK (a b:Int):nrm a b=nrm b a:=by
 have h1:mnI a b=mnI b a:=by unfold mnI;split <;> split <;> lia
 have h2:mxI a b=mxI b a:=by unfold mxI;split <;> split <;> lia
 unfold nrm
 rw[h1,h2]
section
variable  {X:Cx}{tg:Expr}
def iSeq (K:Ez)(tl:TE):TI:=λσ H R=>tl σ H λx H1=>∃a,x = .ref a/\(((∃xs,SqL K H1 a xs)/\R (Itl K a) H1)\/((∃xs,SqT K H1 a xs)/\R (Itt K a) H1))
theorem y3 {l:Expr}{tl:TE}(hl:PE X l tl):PI X tg l (iSeq X.K tl):=by
 intro pins s σ H R I h;refine thn (hl pins s σ H _ I h) λv s1 ⟨x,H1,I1,r1,q1⟩ =>?_
 obtain ⟨a,e,q1⟩:=q1
 subst e
 cases r1
 have fp:∀b∈[s1.heap.objs.size],gs X pins H1 b:=λb hb=>by
  have e:b=s1.heap.objs.size:=by simpa using hb
  rw[e];exact I1.wR (EI _) (I1.hok.fresh (EI _))
 rcases q1 with ⟨⟨xs,hq⟩,q⟩ | ⟨⟨xs,hq⟩,q⟩
 ·obtain ⟨its,rv,p,hz⟩:=I1.list hq;refine Hi p.isList ?_
  exact ⟨s1.heap.objs.size,_,_,_,H1,rfl,I1.kept (t':=s1.toks) (λb o e=>Ey _ e),oB a _,⟨_,EK _ rfl,rfl,rfl⟩,fp,q⟩
 ·obtain ⟨its,rv,p,hz⟩:=I1.tuple hq;refine GS (show s1.heap.IsTuple a its.toArray from p) ?_
  exact ⟨s1.heap.objs.size,_,_,_,H1,rfl,I1.kept (t':=s1.toks) (λb o e=>Ey _ e),mD a _,⟨_,EK _ rfl,rfl,rfl⟩,fp,q⟩
end
theorem mW {X:Cx}{K:Ez}{x y:Str}{i j k:Nat}{p p' pos:Pos}(hN:X.N.Nodup)(hi:X.N[i]? = some x)(hj:X.N[j]? = some y)(hx:Loc X.env.scope x)(hy:Loc X.env.scope y)(hc:X.calm=true:=by rfl)(h:X.K=K:=by rfl)
  (hf:X.fn x=true\/X.env.scope.names.lookup x=some .local:=by first | exact .inl rfl | exact .inr rfl) (hg:X.fn y=true\/X.env.scope.names.lookup y=some .local:=by first | exact .inl rfl | exact .inr rfl):PG X (.Tuple [.Name x p,.Name y p'] k pos) (B6 K i j):=by
 subst h
 exact mC hc (bY (aE hN hi hx hf) (bY (aE hN hj hy hg) jD))
end L2
namespace STab
open PySem PySem.SetTable
def qf (xs:Array Nat):Prop:=∀i j a b:Nat,xs[i]? = some a->xs[j]? = some b->i<j->a<b
theorem y6 {xs:Array Nat}(R:qf xs)(j:Nat):∀(fuel lo hi:Nat),lo<=hi->hi<=xs.size->hi-lo<=fuel →
  (∀i a,i<lo->xs[i]? = some a->a<j)->(∀i a,hi<=i->xs[i]? = some a->j<=a) →
  below.go xs j fuel lo hi<=xs.size/\(∀i a,xs[i]? = some a->(i<below.go xs j fuel lo hi↔a<j)):=by
 intro fuel
 induction fuel with
 | zero =>
  intro lo hi h1 h2 h3 h4 h5
  unfold below.go
  refine ⟨by lia,λi a e=>⟨λq=>h4 i a q e,λq =>?_⟩⟩
  apply Io
  intro q2
  have:=h5 i a (by lia) e
  lia
 | succ fuel ih =>
  intro lo hi h1 h2 h3 h4 h5
  unfold below.go
  by_cases hl:lo<hi
  ·rw[if_pos hl]
   dsimp only
   have hm:(lo+hi)/2<xs.size:=by lia
   have em:xs[(lo+hi)/2]? = some xs[(lo+hi)/2]:=Fe hm
   have eg:xs.getD ((lo+hi)/2) j=xs[(lo+hi)/2]:=by simp[Array.getD,hm]
   rw[eg]
   by_cases hc:xs[(lo+hi)/2]<j
   ·rw[if_pos hc]
    refine ih _ _ (by lia) h2 (by lia) (λi a q e =>?_) h5
    by_cases q2:i=(lo+hi)/2
    ·rw[q2,em] at e;cases e;exact hc
    ·exact Nat.lt_trans (R i _ _ _ e em (by lia)) hc
   ·rw[if_neg hc]
    refine ih _ _ (by lia) (by lia) (by lia) h4 (λi a q e =>?_)
    by_cases q2:i=(lo+hi)/2
    ·rw[q2,em] at e;cases e;lia
    ·have:=R _ i _ _ em e (by lia)
     lia
  ·rw[if_neg hl]
   refine ⟨by lia,λi a e=>⟨λq=>h4 i a q e,λq =>?_⟩⟩
   apply Io
   intro q2
   have:=h5 i a (by lia) e
   lia
theorem dS {xs:Array Nat}(R:qf xs)(j:Nat):below xs j<=xs.size/\∀i a,xs[i]? = some a->(i<below xs j↔a<j) :=
 y6 R j _ _ _ (FE _) (EI _) (by lia) (λi a h=>by lia) λi a h e=>by
  rw[HI (by lia)] at e;cases e
theorem below_at {xs:Array Nat}(R:qf xs){i j:Nat}(h:xs[i]? = some j):below xs j=i:=by
 obtain ⟨h1,h2⟩:=dS R j
 have hi:i<xs.size:=by
  apply Io;intro q;rw[HI q] at h;cases h
 have a1:¬ i<below xs j:=λq=>by have:=(h2 i j h).mp q;lia
 apply La (by lia)
 apply JF
 intro q
 have e:=Fe (xs:=xs) (i:=below xs j) (by lia)
 have l1:=R _ _ _ _ e h q
 have:=(h2 _ _ e).mpr l1
 lia
theorem t9 {xs:Array Nat}(R:qf xs){i j:Nat}(h:xs[i]? = some j):below xs (j+1)=i+1:=by
 obtain ⟨h1,h2⟩:=dS R (j+1)
 have a1:i<below xs (j+1):=(h2 i j h).mpr (by lia)
 apply La _ a1
 apply JF
 intro q
 have hk:i+1<xs.size:=by lia
 have e:=Fe (xs:=xs) hk
 have l1:=R _ _ _ _ h e (by lia)
 have:=(h2 _ _ e).mp q
 lia
theorem ua {xs:Array Nat}(R:qf xs):below xs 0=0:=by
 obtain ⟨h1,h2⟩:=dS R 0
 apply La _ (FE _)
 apply JF
 intro q
 have:=(h2 0 _ (Fe (by lia))).mp q
 lia
theorem bS {α:Type}(xs:Array α)(p:Nat)(x:α):(insertAt xs p x).toList=xs.toList.take p++x :: xs.toList.drop p:=by
 unfold insertAt
 simp
 rw[Fv (by simp)]
theorem cq {α:Type}(xs:Array α){p:Nat}(hp:p<=xs.size)(x:α)(i:Nat) :
  (insertAt xs p x)[i]? = if i<p then xs[i]? else if i=p then some x else xs[i-1]? := by
 rw[<- FO,bS]
 have hl:(xs.toList.take p).length=p:=by rw[Fz,E3];lia
 by_cases h1:i<p
 ·rw[if_pos h1,E1 (by lia),LZ,if_pos h1,FO]
 ·rw[if_neg h1,E6 (by lia),hl]
  by_cases h2:i=p
  ·rw[if_pos h2,h2,G1];rfl
  ·rw[if_neg h2]
   obtain ⟨d,hd⟩:∃d,i-p=d+1:=⟨i-p-1,by lia⟩
   rw[hd,Hy,Ht,FO]
   congr 1;lia
theorem cz {α:Type}(xs:Array α)(p:Nat)(x:α):(insertAt xs p x).size=xs.size+1:=by
 rw[<- E3,bS,EE,Fg,Fz,FD,E3]
 lia
theorem insertAt_perm {α:Type}(xs:Array α)(p:Nat)(x:α):(insertAt xs p x).toList.Perm (x :: xs.toList):=by
 rw[bS]
 exact List.perm_middle.trans (by rw[JB])
theorem fQ {α β:Type}(xs:Array α)(p:Nat)(x:α)(f:α -> β):(insertAt xs p x).map f=insertAt (xs.map f) p (f x):=by
 apply MI.mp
 rw[JG,bS,bS,JG,ER,EZ,IH,Ik]
theorem oh {xs:Array Nat}(R:qf xs){j:Nat}(hj:∀i:Nat,xs[i]? ≠ some j):qf (insertAt xs (below xs j) j):=by
 obtain ⟨h1,h2⟩:=dS R j
 intro a b x y ea eb hab
 rw[cq _ h1] at ea eb
 by_cases a1:a<below xs j
 ·rw[if_pos a1] at ea
  have:=(h2 _ _ ea).mp a1
  by_cases b1:b<below xs j
  ·rw[if_pos b1] at eb;exact R _ _ _ _ ea eb hab
  ·rw[if_neg b1] at eb
   by_cases b2:b=below xs j
   ·rw[if_pos b2] at eb;cases eb;exact this
   ·rw[if_neg b2] at eb
    exact R _ _ _ _ ea eb (by lia)
 ·rw[if_neg a1] at ea
  rw[if_neg (by lia),if_neg (by lia)] at eb
  have l1:¬ y<j:=λq=>by have:=(h2 _ _ eb).mpr q;lia
  by_cases a2:a=below xs j
  ·rw[if_pos a2] at ea;cases ea
   have:y≠j:=λq=>hj _ (q ▸ eb)
   lia
  ·rw[if_neg a2] at ea
   exact R _ _ _ _ ea eb (by lia)
def occ (t:SetTable)(j:Nat):Prop:=∃i:Nat,t.place[i]? = some j
theorem kA {t:SetTable}(R:qf t.place){i j:Nat}(h:t.place[i]? = some j):t.slot j = .live i:=by
 unfold SetTable.slot
 dsimp only
 rw[below_at R h,h]
 simp
theorem ub {t:SetTable}(D:t.dummies = #[]){j:Nat}(h:¬ occ t j):t.slot j = .empty:=by
 unfold SetTable.slot
 dsimp only
 have h1:(t.place[below t.place j]? == some j)=false:=by
  rw[beq_eq_false_iff_ne];exact λq=>h ⟨_,q⟩
 rw[h1,D]
 simp[has]
def adv (mask:Nat)(p:Probe):Probe :=
 if p.more>0 then { p with j:=p.j+1,more:=p.more-1 } else
 let (i,perturb):=leap mask p.i p.perturb
 { p with j:=i,more:=runEnd mask i-i,i,perturb }
def du (mask i perturb:Nat):Probe:={ j:=i,more:=runEnd mask i-i,i,perturb,dummy:=none }
def start (mask:Nat)(h:Int):Probe:=du mask (bits h%(mask+1)) (bits h)
inductive Way (oc:Nat->Prop)(mask:Nat):Nat->Probe->Probe->Prop
 | here (p:Probe):Way oc mask 0 p p
 | step {n:Nat} {p q:Probe}:oc p.j->Way oc mask n (adv mask p) q->Way oc mask (n+1) p q
theorem Way.mono {oc oc':Nat->Prop}{mask n:Nat}{p q:Probe}(m:∀j,oc j->oc' j)(h:Way oc mask n p q):Way oc' mask n p q:=by
 induction h with
 | here p=>exact .here p
 | step a _ ih=>exact .step (m _ a) ih
theorem Way.dummy {oc:Nat->Prop}{mask n:Nat}{p q:Probe}(h:Way oc mask n p q):q.dummy=p.dummy:=by
 induction h with
 | here p=>rfl
 | @step n p q _ _ ih =>
  rw[ih];unfold adv;split <;> rfl
theorem CM {mask:Nat}{p:Probe}(h:p.j+p.more<=mask):(adv mask p).j+(adv mask p).more<=mask:=by
 unfold adv
 split
 ·dsimp only;lia
 ·dsimp only[leap]
  have:(p.i*5+1+p.perturb/32)%(mask+1)<mask+1:=Jp _ (IZ mask)
  unfold runEnd
  split <;> lia
theorem rL (mask:Nat)(h:Int):(start mask h).j+(start mask h).more<=mask:=by
 unfold start du
 dsimp only
 have:bits h%(mask+1)<mask+1:=Jp _ (IZ mask)
 unfold runEnd
 split <;> lia
theorem Way.le {oc:Nat->Prop}{mask n:Nat}{p q:Probe}(h:Way oc mask n p q):p.j+p.more<=mask->q.j<=mask:=by
 induction h with
 | here p=>intro;lia
 | step _ _ ih=>intro h;exact ih (CM h)
def qg (mask:Nat):Nat->Probe->Probe
 | 0,p=>p
 | n+1,p=>qg mask n (adv mask p)
theorem rM (mask:Nat):∀(a b:Nat) (p:Probe),qg mask (a+b) p=qg mask b (qg mask a p)
 | 0,b,p=>by rw[JA];rfl
 | a+1,b,p=>by rw[show a+1+b=(a+b)+1 by lia];exact rM mask a b (adv mask p)
theorem xc (oc:Nat->Prop)(mask:Nat):∀(n:Nat) (p:Probe),¬ oc (qg mask n p).j->∃k q,k<=n/\Way oc mask k p q/\¬ oc q.j:=by
 intro n
 induction n with
 | zero=>intro p h;exact ⟨0,p,EI _,.here p,h⟩
 | succ n ih =>
  intro p h
  by_cases hp:oc p.j
  ·obtain ⟨k,q,a,b,c⟩:=ih (adv mask p) h
   exact ⟨k+1,q,by lia,.step hp b,c⟩
  ·exact ⟨0,p,FE _,.here p,hp⟩
theorem A6 (mask:Nat):∀(m:Nat) (p:Probe),p.more=m->p.dummy=none->qg mask (m+1) p=du mask (leap mask p.i p.perturb).1 (leap mask p.i p.perturb).2:=by
 intro m
 induction m with
 | zero =>
  intro p h d
  show adv mask p=_
  unfold adv
  rw[if_neg (by lia)]
  obtain ⟨j,mo,i,pe,dm⟩:=p
  cases d
  rfl
 | succ m ih =>
  intro p h d
  show qg mask (m+1) (adv mask p)=_
  have e:adv mask p={ p with j:=p.j+1,more:=p.more-1 }:=by unfold adv;rw[if_pos (by lia)]
  rw[e]
  exact ih _ (by dsimp only;lia) d
def cI (mask:Nat):Nat->Nat×Nat->Nat×Nat
 | 0,x=>x
 | k+1,x=>cI mask k (leap mask x.1 x.2)
theorem oO (mask:Nat):∀(a b:Nat) (x:Nat×Nat),cI mask (a+b) x=cI mask b (cI mask a x)
 | 0,b,x=>by rw[JA];rfl
 | a+1,b,x=>by rw[show a+1+b=(a+b)+1 by lia];exact oO mask a b _
theorem more_le (mask i:Nat):runEnd mask i-i<=9:=by unfold runEnd;split <;> lia
theorem uc (mask:Nat):∀(k i pe:Nat),∃n,n<=10*k/\qg mask n (du mask i pe)=du mask (cI mask k (i,pe)).1 (cI mask k (i,pe)).2:=by
 intro k
 induction k with
 | zero=>intro i pe;exact ⟨0,by lia,rfl⟩
 | succ k ih =>
  intro i pe
  obtain ⟨n,h1,h2⟩:=ih (leap mask i pe).1 (leap mask i pe).2
  refine ⟨(runEnd mask i-i+1)+n,by have:=more_le mask i;lia,?_⟩
  rw[rM,A6 mask (runEnd mask i-i) (du mask i pe) rfl rfl]
  exact h2
theorem iW (mask:Nat):∀(k i pe:Nat),(cI mask k (i,pe)).2=pe/32 ^ k
 | 0,i,pe=>by simp[cI]
 | k+1,i,pe=>by
  show (cI mask k (leap mask i pe)).2=_
  rw[show leap mask i pe=((leap mask i pe).1,pe/32) from rfl,iW mask k,Nat.div_div_eq_div_mul,Mz,Nat.mul_comm 32]
theorem rN (mask:Nat):∀(k i pe:Nat),i<=mask->(cI mask k (i,pe)).1<=mask
 | 0,i,pe,h=>h
 | k+1,i,pe,h=>by
  show (cI mask k (leap mask i pe)).1<=mask
  rw[show leap mask i pe=((leap mask i pe).1,pe/32) from rfl]
  exact rN mask k _ _ (Ia (Jp _ (IZ mask)))
def ste (m i:Nat):Nat:=(i*5+1)%m
def its (m:Nat):Nat->Nat->Nat
 | 0,i=>i
 | n+1,i=>its m n (ste m i)
theorem mf (m:Nat):∀(a b i:Nat),its m (a+b) i=its m b (its m a i)
 | 0,b,i=>by rw[JA];rfl
 | a+1,b,i=>by rw[show a+1+b=(a+b)+1 by lia];exact mf m a b _
def orb (m:Nat):Nat->Nat->List Nat
 | 0,_=>[]
 | n+1,i=>i :: orb m n (ste m i)
theorem qh (m:Nat):∀(n i j:Nat),j∈orb m n i->∃r,r<n/\its m r i=j
 | 0,i,j,h=>by cases h
 | n+1,i,j,h=>by
  rcases EW.mp h with h | h
  ·exact ⟨0,by lia,h.symm⟩
  ·obtain ⟨r,a,b⟩:=qh m n _ _ h
   exact ⟨r+1,by lia,b⟩
def whole (m:Nat):Bool:=((FP m).all λj=>(orb m m 0).contains j) && (its m m 0 == 0)
theorem xf {m:Nat}(h:whole m=true){i j:Nat}(hi:i<m)(hj:j<m):∃r,r<m/\its m r i=j:=by
 unfold whole at h
 rw[Fh,GI,beq_iff_eq] at h
 obtain ⟨h1,h2⟩:=h
 obtain ⟨a,a1,a2⟩:=qh m m 0 i (Lb.mp (h1 i (FJ.mpr hi)))
 obtain ⟨b,b1,b2⟩:=qh m m 0 j (Lb.mp (h1 j (FJ.mpr hj)))
 by_cases hab:a<=b
 ·refine ⟨b-a,by lia,?_⟩
  rw[<- a2, <- mf,show a+(b-a)=b by lia]
  exact b2
 ·refine ⟨m+b-a,by lia,?_⟩
  rw[<- a2, <- mf,show a+(m+b-a)=m+b by lia,mf,h2]
  exact b2
theorem CN:whole 8=true:=by decide +kernel
theorem A7:whole 32=true:=by decide +kernel
theorem y7:whole 128=true:=by decide +kernel
theorem y8:whole 512=true:=by decide +kernel
def Msk (mask:Nat):Prop:=mask=7\/mask=31\/mask=127\/mask=511
theorem Msk.whole {mask:Nat}(h:Msk mask):whole (mask+1)=true:=by
 rcases h with rfl | rfl | rfl | rfl
 ·exact CN
 ·exact A7
 ·exact y7
 ·exact y8
theorem oP (mask:Nat):∀(r i:Nat),cI mask r (i,0)=(its (mask+1) r i,0)
 | 0,i=>rfl
 | r+1,i=>by
  show cI mask r (leap mask i 0)=_
  rw[show leap mask i 0=(ste (mask+1) i,0) from rfl,oP mask r];rfl
theorem A8 (h:Int):bits h<2 ^ 64:=by
 unfold bits
 have h1:=Gx h (show (0:Int)<2 ^ 64 by decide)
 have h0:=GF h (show (2 ^ 64:Int)≠0 by decide)
 have:((2 ^ 64:Nat):Int)=2 ^ 64:=by decide
 lia
theorem mX {mask:Nat}(hm:Msk mask){h:Int}{j:Nat}(hj:j<=mask):∃k,k<turns mask/\(cI mask k (bits h%(mask+1),bits h)).1=j:=by
 have p0:(cI mask 13 (bits h%(mask+1),bits h)).2=0:=by
  rw[iW]
  exact Nat.div_eq_of_lt (EL (A8 h) (by decide))
 have i0:=rN mask 13 (bits h%(mask+1)) (bits h) (Ia (Jp _ (IZ mask)))
 obtain ⟨r,r1,r2⟩:=xf hm.whole (i:=(cI mask 13 (bits h%(mask+1),bits h)).1) (j:=j) (by lia) (by lia)
 refine ⟨13+r,by unfold turns;lia,?_⟩
 rw[oO,show cI mask 13 (bits h%(mask+1),bits h)=((cI mask 13 (bits h%(mask+1),bits h)).1,0) from LV rfl p0,oP]
 exact r2
theorem y9 {mask:Nat}(hm:Msk mask)(oc:Nat->Prop)(h:Int){j:Nat}(hj:j<=mask)(he:¬ oc j):∃n q,n<10*turns mask/\Way oc mask n (start mask h) q/\¬ oc q.j/\q.j<=mask/\q.dummy=none:=by
 obtain ⟨k,k1,k2⟩:=mX hm (h:=h) hj
 obtain ⟨n,n1,n2⟩:=uc mask k (bits h%(mask+1)) (bits h)
 obtain ⟨n',q,a,b,c⟩:=xc oc mask n (start mask h) (by
  show ¬ oc (qg mask n (du mask _ _)).j
  rw[n2]
  show ¬ oc (cI mask k (bits h%(mask+1),bits h)).1
  rw[k2]
  exact he)
 exact ⟨n',q,by lia,b,c,b.le (rL mask h),b.dummy⟩
theorem oQ {mask n:Nat}(oc:Nat->Prop)(f:Nat->Nat)(hf:∀j,j<=mask->oc j->f j<n)(inj:∀i j,i<=mask->j<=mask->oc i->oc j->f i=f j->i=j)(hn:n<=mask):∃j,j<=mask/\¬ oc j:=by
 by_cases q:∃j,j<=mask/\¬ oc j
 ·exact q
 ·exfalso
  have all:∀j,j<=mask->oc j:=λj hj=>by
   by_cases o:oc j
   ·exact o
   ·exact absurd ⟨j,hj,o⟩ q
  have nd:((FP (mask+1)).map f).Nodup:=by
   unfold List.Nodup
   rw[Gq]
   refine I0 (λ{a b} ha hb hab e=>hab (inj a b ?_ ?_ (all _ ?_) (all _ ?_) e)) (MJ)
   all_goals (rw[FJ] at ha hb;lia)
  have:=GQ nd (l₂:=FP n) (λx hx=>by
   obtain ⟨j,hj,e⟩:=E9.mp hx
   rw[FJ] at hj ⊢
   rw[<- e]
   exact hf j (by lia) (all j (by lia)))
  rw[Ex,Ib,Ib] at this
  lia
structure Tab (t:SetTable)(hs:Array Int):Prop where
 dm:t.dummies = #[]
 rise:qf t.place
 size:t.place.size=hs.size
 le:∀i j:Nat,t.place[i]? = some j->j<=t.mask
 msk:Msk t.mask
 fit:hs.size<=t.mask
 reach:∀(i j:Nat) (h:Int),t.place[i]? = some j->hs[i]? = some h->∃n q,Way (occ t) t.mask n (start t.mask h) q/\q.j=j
theorem fv {α:Type}{xs:Array α}{i:Nat}{a:α}(h:xs[i]? = some a):i<xs.size:=by
 apply Io;intro q;rw[HI q] at h;cases h
theorem Tab.fill {t:SetTable}{hs:Array Int}(T:Tab t hs):t.fill=hs.size:=by
 unfold SetTable.fill;rw[T.dm,T.size];rfl
theorem Tab.fits {t:SetTable}{hs:Array Int}(T:Tab t hs):t.fits hs.size=true:=by
 unfold SetTable.fits
 rw[T.fill,T.size]
 simp[T.fit]
theorem Tab.ends {t:SetTable}{hs:Array Int}(T:Tab t hs)(h:Int):∃n q,n<10*turns t.mask/\Way (occ t) t.mask n (start t.mask h) q/\¬ occ t q.j/\q.j<=t.mask/\q.dummy=none:=by
 obtain ⟨j,hj,he⟩:=oQ (mask:=t.mask) (n:=hs.size) (occ t) (λj=>below t.place j)
  (λj _ ⟨i,e⟩=>by show below t.place j<hs.size;rw[below_at T.rise e, <- T.size];exact fv e)
  (λi j _ _ ⟨a,ea⟩ ⟨b,eb⟩ e=>by
   have e':below t.place i=below t.place j:=e
   rw[below_at T.rise ea,below_at T.rise eb] at e'
   subst e'
   exact EX (ea.symm.trans eb)) T.fit
 exact y9 T.msk (occ t) h hj he
theorem za {t:SetTable}{hs:Array Int}(T:Tab t hs){H:Nat->Int}{h:Int}:∀(n:Nat) (p q:Probe) (fuel:Nat),Way (occ t) t.mask n p q->¬ occ t q.j->n<fuel->p.dummy=none →
  (SetTable.probe.go t H h fuel p=some (.empty q.j none)/\∀k r i,Way (occ t) t.mask k p r->t.place[i]? = some r.j->H i≠h) ∨
  (∃k r i,k<n/\Way (occ t) t.mask k p r/\t.place[i]? = some r.j/\H i=h/\SetTable.probe.go t H h fuel p=some (.candidate r.j i (adv t.mask r))/\Way (occ t) t.mask (n-k-1) (adv t.mask r) q/\(adv t.mask r).dummy=none
   /\ ∀k' r' i',k'<k->Way (occ t) t.mask k' p r'->t.place[i']? = some r'.j->H i'≠h):=by
 intro n
 induction n with
 | zero =>
  intro p q fuel W he hf hd
  cases W
  obtain ⟨fuel,rfl⟩:∃f,fuel=f+1:=⟨fuel-1,by lia⟩
  refine .inl ⟨?_,λk r i Wr er =>?_⟩
  ·unfold SetTable.probe.go
   rw[ub T.dm he]
   dsimp only
   rw[hd]
  ·cases Wr with
   | here=>exact absurd ⟨i,er⟩ he
   | step a _=>exact absurd a he
 | succ n ih =>
  intro p q fuel W he hf hd
  obtain ⟨fuel,rfl⟩:∃f,fuel=f+1:=⟨fuel-1,by lia⟩
  cases W with
  | step a W =>
   obtain ⟨i,ei⟩:=a
   have hd':(adv t.mask p).dummy=none:=by rw[<- hd];unfold adv;split <;> rfl
   by_cases hh:H i=h
   ·refine .inr ⟨0,p,i,by lia,.here p,ei,hh,?_,W,hd',λk' r' i' hk=>by lia⟩
    unfold SetTable.probe.go
    rw[kA T.rise ei]
    dsimp only
    rw[if_pos (by rw[hh];exact beq_self_eq_true h)]
    rfl
   ·have e0:SetTable.probe.go t H h (fuel+1) p=SetTable.probe.go t H h fuel (adv t.mask p):=by
     conv=>lhs;unfold SetTable.probe.go
     rw[kA T.rise ei]
     dsimp only
     rw[if_neg (by rw[beq_iff_eq];exact hh)]
     rfl
    rcases ih (adv t.mask p) q fuel W he (by lia) hd' with ⟨r1,r2⟩ | ⟨k,r,i',k1,w1,e1,h1,g1,w2,d2,no⟩
    ·refine .inl ⟨e0.trans r1,λk r j Wr er =>?_⟩
     cases Wr with
     | here =>
      obtain rfl:i=j:=by
       have x:=below_at T.rise ei
       have y:=below_at T.rise er
       exact x.symm.trans y
      exact hh
     | step _ Wr=>exact r2 _ _ _ Wr er
    ·refine .inr ⟨k+1,r,i',by lia,.step ⟨i,ei⟩ w1,e1,h1,e0.trans g1,by rw[show n+1-(k+1)-1=n-k-1 by lia];exact w2,d2,λk' r' j hk Wr er =>?_⟩
     cases Wr with
     | here =>
      obtain rfl:i=j:=by
       have x:=below_at T.rise ei
       have y:=below_at T.rise er
       exact x.symm.trans y
      exact hh
     | step _ Wr=>exact no _ _ _ (by lia) Wr er
theorem rO {t:SetTable}{hs:Array Int}(T:Tab t hs){H:Nat->Int}{h:Int}{n:Nat}{p q:Probe}(W:Way (occ t) t.mask n p q)(he:¬ occ t q.j)(hn:n<10*turns t.mask)(hd:p.dummy=none) :
  (t.probe H h p=some (.empty q.j none)/\∀k r i,Way (occ t) t.mask k p r->t.place[i]? = some r.j->H i≠h) ∨
  (∃k r i,k<n/\Way (occ t) t.mask k p r/\t.place[i]? = some r.j/\H i=h/\t.probe H h p=some (.candidate r.j i (adv t.mask r))/\Way (occ t) t.mask (n-k-1) (adv t.mask r) q/\(adv t.mask r).dummy=none
   /\ ∀k' r' i',k'<k->Way (occ t) t.mask k' p r'->t.place[i']? = some r'.j->H i'≠h) :=
 za T n p q _ W he hn hd
theorem Tab.zb {t:SetTable}{hs:Array Int}(T:Tab t hs)(j:Nat):t.put j=({ t with place:=insertAt t.place (below t.place j) j },below t.place j):=by
 unfold SetTable.put
 dsimp only
 have:has t.dummies j=false:=by rw[T.dm];simp[has]
 rw[this]
 rfl
theorem Tab.put {t:SetTable}{hs:Array Int}(T:Tab t hs){h:Int}{n:Nat}{q:Probe}(W:Way (occ t) t.mask n (start t.mask h) q)(he:¬ occ t q.j)(hq:q.j<=t.mask)(hf:hs.size+1<=t.mask) :
  Tab { t with place:=insertAt t.place (below t.place q.j) q.j } (insertAt hs (below t.place q.j) h):=by
 have hp:=(dS T.rise q.j).1
 have hp':below t.place q.j<=hs.size:=by rw[<- T.size];exact hp
 have up:∀j,occ t j->occ { t with place:=insertAt t.place (below t.place q.j) q.j } j:=by
  rintro j ⟨i,e⟩
  by_cases l:i<below t.place q.j
  ·exact ⟨i,by show (insertAt _ _ _)[i]? = _;rw[cq _ hp,if_pos l];exact e⟩
  ·exact ⟨i+1,by show (insertAt _ _ _)[i+1]? = _;rw[cq _ hp,if_neg (by lia),if_neg (by lia)];exact e⟩
 refine ⟨T.dm,oh T.rise λi e=>he ⟨i,e⟩,?_,λi j e =>?_,T.msk,by rw[cz];exact hf,λi j h' e eh =>?_⟩
 ·show (insertAt _ _ _).size=_
  rw[cz,cz,T.size]
 ·have e':(insertAt t.place (below t.place q.j) q.j)[i]? = some j:=e
  rw[cq _ hp] at e'
  split at e'
  ·exact T.le _ _ e'
  ·split at e'
   ·cases e';exact hq
   ·exact T.le _ _ e'
 ·have e':(insertAt t.place (below t.place q.j) q.j)[i]? = some j:=e
  rw[cq _ hp] at e'
  rw[cq _ hp'] at eh
  by_cases l1:i<below t.place q.j
  ·rw[if_pos l1] at e' eh
   obtain ⟨n',q',w,eq⟩:=T.reach _ _ _ e' eh
   exact ⟨n',q',w.mono up,eq⟩
  ·rw[if_neg l1] at e' eh
   by_cases l2:i=below t.place q.j
   ·rw[if_pos l2] at e' eh
    cases e';cases eh
    exact ⟨n,q,W.mono up,rfl⟩
   ·rw[if_neg l2] at e' eh
    obtain ⟨n',q',w,eq⟩:=T.reach _ _ _ e' eh
    exact ⟨n',q',w.mono up,eq⟩
def ocw (owner:Array (Option Nat))(j:Nat):Prop:=∃k,owner[j]? = some (some k)
theorem Way.trans {oc:Nat->Prop}{mask n m:Nat}{p q r:Probe}(h:Way oc mask n p q)(h2:Way oc mask m q r):∃k,Way oc mask k p r:=by
 induction h with
 | here=>exact ⟨m,h2⟩
 | step a _ ih=>obtain ⟨k,w⟩:=ih h2;exact ⟨k+1,.step a w⟩
theorem qi (oc:Nat->Prop)(mask:Nat):∀(k:Nat) (p:Probe),k<=p.more->(∀k',k'<k->oc (p.j+k'))->Way oc mask k p { p with j:=p.j+k,more:=p.more-k }
 | 0,p,_,_ =>.here p
 | k+1,p,h,ho=>by
  have e:adv mask p={ p with j:=p.j+1,more:=p.more-1 }:=by unfold adv;rw[if_pos (by lia)]
  refine .step (ho 0 (by lia)) ?_
  rw[e]
  have:=qi oc mask k { p with j:=p.j+1,more:=p.more-1 } (by dsimp only;lia) λk' hk=>by
   have:=ho (k'+1) (by lia)
   rw[show p.j+(k'+1)=p.j+1+k' by lia] at this
   exact this
  dsimp only at this
  rw[show p.j+1+k=p.j+(k+1) by lia,show p.more-1-k=p.more-(k+1) by lia] at this
  exact this
theorem gC {owner:Array (Option Nat)}{mask j:Nat}(hs:owner.size=mask+1)(hj:j<=mask):(owner.getD j (some 0)).isNone=true↔¬ ocw owner j:=by
 have hl:j<owner.size:=by lia
 have e:owner[j]? = some owner[j]:=Fe hl
 rw[show owner.getD j (some 0)=owner[j] by simp[Array.getD,hl]]
 unfold ocw
 rw[e]
 cases owner[j] with
 | none=>simp
 | some k=>simp
theorem oR {mask i:Nat}(h:i<=mask):runEnd mask i<=mask/\i<=runEnd mask i:=by
 unfold runEnd;split <;> lia
theorem xg {mask:Nat}{owner:Array (Option Nat)}(hs:owner.size=mask+1):∀(fuel i pe j:Nat),i<=mask->SetTable.layClean.free mask owner fuel i pe=some j →
  ¬ ocw owner j/\∃n q,Way (ocw owner) mask n (du mask i pe) q/\q.j=j:=by
 intro fuel
 induction fuel with
 | zero=>intro i pe j hi h;unfold SetTable.layClean.free at h;cases h
 | succ fuel ih =>
  intro i pe j hi h
  unfold SetTable.layClean.free at h
  obtain ⟨r1,r2⟩:=oR hi
  have no:∀k,k<runEnd mask i+1-i->((owner.getD (i+k) (some 0)).isNone=false)->ocw owner (i+k):=λk hk e=>by
   by_cases o:ocw owner (i+k)
   ·exact o
   ·rw[(gC hs (by lia)).mpr o] at e;cases e
  cases hf:(FP (runEnd mask i+1-i)).find? λk=>(owner.getD (i+k) (some 0)).isNone with
  | some k =>
   rw[hf] at h
   dsimp only at h
   cases h
   rw[List.find?_range_eq_some] at hf
   obtain ⟨f1,f2,f3⟩:=hf
   rw[FJ] at f2
   refine ⟨(gC hs (by lia)).mp f1,k,_,qi (ocw owner) mask k (du mask i pe) (by show k<=runEnd mask i-i;lia) λk' hk =>?_,rfl⟩
   refine no k' (by lia) ?_
   have:=f3 k' hk
   simpa using this
  | none =>
   rw[hf] at h
   dsimp only at h
   rw[Kn] at hf
   have all:∀k,k<runEnd mask i+1-i->ocw owner (i+k):=λk hk=>no k hk (by simpa using hf k hk)
   obtain ⟨g1,n,q,w,eq⟩:=ih _ _ _ (Ia (Jp _ (IZ mask))) h
   refine ⟨g1,?_⟩
   have w0:=qi (ocw owner) mask (runEnd mask i-i) (du mask i pe) (EI _) λk' hk=>all k' (by lia)
   have w1:Way (ocw owner) mask (n+1) { (du mask i pe) with j:=(du mask i pe).j+(runEnd mask i-i),more:=(du mask i pe).more-(runEnd mask i-i) } q:=by
    refine .step (all (runEnd mask i-i) (by lia)) ?_
    have e:adv mask { (du mask i pe) with j:=(du mask i pe).j+(runEnd mask i-i),more:=(du mask i pe).more-(runEnd mask i-i) }=du mask (leap mask i pe).1 (leap mask i pe).2:=by
     unfold adv
     rw[if_neg (by show ¬ (runEnd mask i-i-(runEnd mask i-i))>0;lia)]
     rfl
    rw[e]
    exact w
   obtain ⟨k,w2⟩:=w0.trans w1
   exact ⟨k,q,w2,eq⟩
theorem xh {mask:Nat}{owner:Array (Option Nat)}(hs:owner.size=mask+1):∀(fuel i pe k:Nat),i<=mask->k<fuel->¬ ocw owner (cI mask k (i,pe)).1->∃j,SetTable.layClean.free mask owner fuel i pe=some j:=by
 intro fuel
 induction fuel with
 | zero=>intro i pe k _ h;lia
 | succ fuel ih =>
  intro i pe k hi hk he
  unfold SetTable.layClean.free
  obtain ⟨r1,r2⟩:=oR hi
  cases hf:(FP (runEnd mask i+1-i)).find? λk=>(owner.getD (i+k) (some 0)).isNone with
  | some k=>exact ⟨_,rfl⟩
  | none =>
   dsimp only
   rw[Kn] at hf
   cases k with
   | zero =>
    have h0:=hf 0 (by lia)
    have:(owner.getD (i+0) (some 0)).isNone=true:=(gC hs (by lia)).mpr he
    rw[this] at h0
    cases h0
   | succ k=>exact ih _ _ k (Ia (Jp _ (IZ mask))) (by lia) he
structure Own (mask:Nat)(owner:Array (Option Nat))(hs:List Int):Prop where
 size:owner.size=mask+1
 cov:∀(k:Nat) (h:Int),hs[k]? = some h->∃j n q,owner[j]? = some (some k)/\Way (ocw owner) mask n (start mask h) q/\q.j=j
 bnd:∀j k:Nat,owner[j]? = some (some k)->k<hs.length
 inj:∀i j k:Nat,owner[i]? = some (some k)->owner[j]? = some (some k)->i=j
theorem Own.step {mask:Nat}(hm:Msk mask){owner:Array (Option Nat)}{hs:List Int}(O:Own mask owner hs)(h:Int)(hl:hs.length<=mask) :
  ∃j,SetTable.layClean.free mask owner (turns mask) (bits h%(mask+1)) (bits h)=some j/\Own mask (owner.setIfInBounds j (some hs.length)) (hs++[h]):=by
 obtain ⟨e,he,hne⟩:=oQ (mask:=mask) (n:=hs.length) (ocw owner) (λj=>(owner.getD j none).getD 0)
  (λj _ ⟨k,ek⟩=>by
   have:=fv ek
   show (owner.getD j none).getD 0<_
   rw[show owner.getD j none=some k by rw[Ha,ek];rfl]
   exact O.bnd j k ek)
  (λi j _ _ ⟨a,ea⟩ ⟨b,eb⟩ q=>by
   have q':(owner.getD i none).getD 0=(owner.getD j none).getD 0:=q
   rw[show owner.getD i none=some a by rw[Ha,ea];rfl,show owner.getD j none=some b by rw[Ha,eb];rfl] at q'
   have q'':a=b:=q'
   subst q''
   exact O.inj i j a ea eb) hl
 have i0:bits h%(mask+1)<=mask:=Ia (Jp _ (IZ mask))
 obtain ⟨k,k1,k2⟩:=mX hm (h:=h) he
 obtain ⟨j,hj⟩:=xh O.size (turns mask) _ _ k i0 k1 (by rw[k2];exact hne)
 obtain ⟨hno,n,q,w,eq⟩:=xg O.size _ _ _ _ i0 hj
 have hjm:j<=mask:=by rw[<- eq];exact w.le (rL mask h)
 have hjs:j<owner.size:=by rw[O.size];lia
 have ej:owner[j]? = some none:=by
  rw[Fe hjs]
  cases ho:owner[j] with
  | none=>rfl
  | some k=>exact absurd ⟨k,by rw[Fe hjs,ho]⟩ hno
 have get:∀i:Nat,(owner.setIfInBounds j (some hs.length))[i]? = if i=j then some (some hs.length) else owner[i]? := λi=>by
  rw[Array.getElem?_setIfInBounds]
  by_cases q:j=i
  ·rw[if_pos q,if_pos q.symm,if_pos hjs]
  ·rw[if_neg q,if_neg (Gn q)]
 have up:∀i,ocw owner i->ocw (owner.setIfInBounds j (some hs.length)) i:=by
  rintro i ⟨k,ek⟩
  refine ⟨k,?_⟩
  rw[get,if_neg (λq=>by rw[q,ej] at ek;cases ek)]
  exact ek
 refine ⟨j,hj,by rw[Array.size_setIfInBounds];exact O.size,λk h' eh =>?_,λi k ek =>?_,λi i' k ei ei' =>?_⟩
 ·by_cases lk:k<hs.length
  ·rw[E1 lk] at eh
   obtain ⟨j',n',q',a,b,c⟩:=O.cov k h' eh
   refine ⟨j',n',q',?_,b.mono up,c⟩
   rw[get,if_neg (λq=>by rw[q,ej] at a;cases a)]
   exact a
  ·rw[E6 (by lia)] at eh
   have:k-hs.length=0:=by
    cases hk:k-hs.length with
    | zero=>rfl
    | succ m=>rw[hk] at eh;cases eh
   rw[this] at eh
   cases eh
   obtain rfl:k=hs.length:=by lia
   exact ⟨j,n,q,by rw[get,if_pos rfl],w.mono up,eq⟩
 ·rw[EE,Gh]
  rw[get] at ek
  split at ek
  ·cases ek;lia
  ·have:=O.bnd _ _ ek;lia
 ·rw[get] at ei ei'
  by_cases q1:i=j
  ·by_cases q2:i'=j
   ·rw[q1,q2]
   ·rw[if_pos q1] at ei;rw[if_neg q2] at ei'
    cases ei
    have:=O.bnd _ _ ei';lia
  ·rw[if_neg q1] at ei
   by_cases q2:i'=j
   ·rw[if_pos q2] at ei'
    cases ei'
    have:=O.bnd _ _ ei;lia
   ·rw[if_neg q2] at ei'
    exact O.inj _ _ _ ei ei'
theorem rP {mask:Nat}(hm:Msk mask):∀(l:List Int) (owner:Array (Option Nat)) (hs:List Int),Own mask owner hs->hs.length+l.length<=mask+1 →
    ∃owner',l.foldl (λacc h=>do
      let (owner,k) ← acc
      let j ← SetTable.layClean.free mask owner (turns mask) (bits h%(mask+1)) (bits h)
      pure (owner.setIfInBounds j (some k),k+1)) (some (owner,hs.length))=some (owner',hs.length+l.length)/\Own mask owner' (hs++l)
  | [],owner,hs,O,_=>⟨owner,rfl,by rw[FQ];exact O⟩
  | h :: l,owner,hs,O,hl=>by
    rw[Fg] at hl
    obtain ⟨j,hj,O'⟩:=O.step hm h (by lia)
    obtain ⟨owner',e,O''⟩:=rP hm l _ _ O' (by rw[EE,Gh];lia)
    refine ⟨owner',?_,by rw[HB] at O'';exact O''⟩
    rw[MV]
    have:(do
      let (owner,k) ← some (owner,hs.length)
      let j ← SetTable.layClean.free mask owner (turns mask) (bits h%(mask+1)) (bits h)
      pure (owner.setIfInBounds j (some k),k+1):Option (Array (Option Nat)×Nat))=some (owner.setIfInBounds j (some hs.length),(hs++[h]).length):=by
      show (SetTable.layClean.free mask owner (turns mask) (bits h%(mask+1)) (bits h)).bind _=_
      rw[hj,EE]
      rfl
    rw[this,e]
    rw[EE,Gh,Fg]
    congr 2
    lia
theorem rQ {mask:Nat}(hm:Msk mask)(hs:Array Int)(hl:hs.size<=mask+1):∃owner,SetTable.layClean mask hs=some owner/\Own mask owner hs.toList:=by
  have O0:Own mask (Array.replicate (mask+1) none) []:=by
    refine ⟨by simp,λk h e=>by simp at e,λj k e =>?_,λi j k e =>?_⟩
    · rw[Ko] at e;split at e <;> cases e
    · rw[Ko] at e;split at e <;> cases e
  obtain ⟨owner,e,O⟩:=rP hm hs.toList _ [] O0 (by rw[G9,E3];lia)
  refine ⟨owner,?_,by rw[MW] at O;exact O⟩
  unfold SetTable.layClean
  rw[<- Array.foldl_toList]
  have e':hs.toList.foldl (λacc h=>do
      let (owner,k) ← acc
      let j ← SetTable.layClean.free mask owner (turns mask) (bits h%(mask+1)) (bits h)
      pure (owner.setIfInBounds j (some k),k+1)) (some (Array.replicate (mask+1) none,0))=some (owner,0+hs.toList.length):=e
  rw[e']
  rfl
theorem filterMap_get {α β:Type}{f:α -> Option β}:∀(l:List α),(∀x∈l,(f x).isSome=true)->∀i:Nat,(l.filterMap f)[i]? = l[i]?.bind f
 | [],_,i=>by simp
 | x :: l,h,i=>by
  obtain ⟨y,hy⟩:=IX.mp (h x E7)
  rw[List.filterMap_cons_some hy]
  cases i with
  | zero=>simp[hy]
  | succ i =>
   rw[Hy,Hy]
   exact filterMap_get l (λz hz=>h z (E8 _ hz)) i
theorem A9 {mask:Nat}(hm:Msk mask)(finger moves:Nat)(led plain:Bool)(es:Array (Int×EB))(hl:es.size<=mask) :
  ∃t order,SetTable.laid mask finger moves led plain (es.map (·.1))=some (t,order)/\order.toList.Perm (FP es.size)/\Tab t ((order.filterMap (es[·]?)).map (·.1))/\(order.filterMap (es[·]?)).toList.Perm es.toList/\t.led=led/\t.plain=plain/\t.mask=mask:=by
 obtain ⟨owner,e,O⟩:=rQ hm (es.map (·.1)) (by rw[FL];lia)
 refine ⟨_,_,by unfold SetTable.laid;rw[e];rfl,?_⟩
 generalize hlive:((FP (mask+1)).filterMap λj=>(owner.getD j none).map (j, ·))=live
 have mem:∀j k,(j,k)∈live↔owner[j]? = some (some k):=λj k=>by
  rw[<- hlive,Iw]
  constructor
  ·rintro ⟨a,ha,ea⟩
   rw[Ha] at ea
   cases ho:owner[a]? with
   | none=>rw[ho] at ea;cases ea
   | some x =>
    rw[ho] at ea
    cases x with
    | none=>cases ea
    | some k'=>cases ea;exact ho
  ·intro ho
   refine ⟨j,?_,?_⟩
   ·rw[FJ, <- O.size];exact fv ho
   ·rw[Ha,ho];rfl
 have pw:live.Pairwise (λa b=>a.1<b.1):=by
  rw[<- hlive,List.pairwise_filterMap]
  refine NG (λ{a b} hab x hx y hy =>?_) List.pairwise_lt_range
  have hx':x.1=a:=by cases ho:owner.getD a none with
   | none=>rw[ho] at hx;cases hx
   | some k=>rw[ho] at hx;cases hx;rfl
  have hy':y.1=b:=by cases ho:owner.getD b none with
   | none=>rw[ho] at hy;cases hy
   | some k=>rw[ho] at hy;cases hy;rfl
  rw[hx',hy'];exact hab
 have nd:(live.map (·.2)).Nodup:=by
  unfold List.Nodup
  rw[Gq]
  refine I0 (λ{a b} ha hb hab q =>?_) pw
  have:=O.inj a.1 b.1 a.2 ((mem _ _).mp ha) (by rw[q];exact (mem _ _).mp hb)
  lia
 have hlen:(es.map (·.1)).toList.length=es.size:=by rw[E3,FL]
 have perm:(live.map (·.2)).Perm (FP es.size):=by
  rw[IK nd MJ]
  intro k
  rw[FJ,E9]
  constructor
  ·rintro ⟨⟨j,k'⟩,hm',rfl⟩
   have:=O.bnd _ _ ((mem _ _).mp hm')
   rw[hlen] at this
   exact this
  ·intro hk
   obtain ⟨j,_,_,ej,_⟩:=O.cov k _ (EA (by rw[hlen];exact hk))
   exact ⟨(j,k),(mem _ _).mpr ej,rfl⟩
 have all:∀x∈live.map (·.2),(es[x]?).isSome=true:=λx hx=>by
  have:=(perm.mem_iff).mp hx
  rw[FJ] at this
  rw[Fe this];rfl
 have tl:(live.map (·.2)).toArray.toList=live.map (·.2):=rfl
 have ll:live.length=es.size:=by have:=perm.length_eq;rw[Ex,Ib] at this;exact this
 have fm:((live.map (·.2)).toArray.filterMap (es[·]?)).toList=(live.map (·.2)).filterMap (es[·]?):=by simp
 have fl:((live.map (·.2)).filterMap (es[·]?)).Perm es.toList:=by
  have p1:=perm.filterMap (es[·]?)
  have:(FP es.size).filterMap (es[·]?)=es.toList:=by
   apply Mk
   intro i
   rw[filterMap_get _ (λx hx=>by rw[FJ] at hx;rw[Fe hx];rfl)]
   by_cases hi:i<es.size
   ·rw[List.getElem?_range hi,FO];rfl
   ·rw[Gi (by rw[Ib];lia),Gi (by rw[E3];lia)];rfl
  rw[this] at p1
  exact p1
 refine ⟨perm,?_,by rw[fm];exact fl,rfl,rfl,rfl⟩
 have sz:(((live.map (·.2)).toArray.filterMap (es[·]?)).map (·.1)).size=es.size:=by
  rw[FL, <- E3,fm,fl.length_eq,E3]
 have occ_of:∀j,ocw owner j->occ { mask:=mask,place:=(live.map (·.1)).toArray,dummies := #[],finger:=finger,led:=led,moves:=moves,plain:=plain } j:=by
  rintro j ⟨k,ek⟩
  obtain ⟨i,hi,ei⟩:=HE ((mem j k).mpr ek)
  refine ⟨i,?_⟩
  show (live.map (·.1)).toArray[i]? = some j
  rw[Fj,ET,EA hi,ei]
  rfl
 refine ⟨rfl,λi j a b ea eb hij =>?_,?_,λi j ej =>?_,hm,by rw[sz];exact hl,λi j h ej eh =>?_⟩
 ·have ea':(live.map (·.1)).toArray[i]? = some a:=ea
  have eb':(live.map (·.1)).toArray[j]? = some b:=eb
  rw[Fj] at ea' eb'
  have pw':(live.map (·.1)).Pairwise (· < ·):=by rw[Gq];exact pw
  obtain ⟨hi,xi⟩:=EJ.mp ea'
  obtain ⟨hj,xj⟩:=EJ.mp eb'
  rw[<- xi, <- xj]
  exact IP.mp pw' i j hi hj hij
 ·show (live.map (·.1)).toArray.size=_
  rw[sz,EM,Ex,ll]
 ·have ej':(live.map (·.1)).toArray[i]? = some j:=ej
  rw[Fj,ET] at ej'
  cases hx:live[i]? with
  | none=>rw[hx] at ej';cases ej'
  | some x =>
   rw[hx] at ej'
   cases ej'
   have:=fv ((mem x.1 x.2).mp (EH hx))
   show x.1<=mask
   rw[O.size] at this
   lia
 ·have ej':(live.map (·.1)).toArray[i]? = some j:=ej
  rw[Fj,ET] at ej'
  cases hx:live[i]? with
  | none=>rw[hx] at ej';cases ej'
  | some x =>
   rw[hx] at ej'
   cases ej'
   have ho:=(mem x.1 x.2).mp (EH hx)
   have hk:=O.bnd _ _ ho
   rw[L0, <- FO,fm,filterMap_get _ all,ET,hx] at eh
   have eh':(es[x.2]?).map (·.1)=some h:=eh
   obtain ⟨j',n,q,a,b,c⟩:=O.cov x.2 h (by rw[JG,ET,FO];exact eh')
   obtain rfl:=O.inj _ _ _ ho a
   exact ⟨n,q,b.mono occ_of,c⟩
open PySem PySem.SetTable PyProof.Rows
section
variable  {prog:EV}{w:Fm}{A:FN}{E:EB->EG->Prop}{s:EG}
abbrev TK (prog:EV)(w:Fm):=IsTupleKey (prog:=prog) (w:=w) (intKind prog w)
def cA (prog:EV)(w:Fm)(ks:List Int):Int:=tupleKeyHash (intKind prog w) ks
def aS (es:Array (Int×EB))(ep:Nat)(t:SetTable):Obj:={ cls :=.type "set",dict:=none,data :=.set es ep t }
def ElT (prog:EV)(w:Fm)(h:Heap)(e:Int×EB)(ks:List Int):Prop:=∃b,e=(cA prog w ks,.ref b)/\TK prog w h ks b
theorem qj (d:Nat){v:EB}(h:carriedByValue v=true):ofAClassStatement d v=pure false:=by
 cases v with
 | ref a=>simp[carriedByValue] at h
 | _=>cases d <;> rfl
theorem jQ {ks:List Int}{b:Addr}{Q:Bool->EG->Prop}(hk:TK prog w s.heap ks b)(h:Q false s):E4 (Fq prog w) A (ofAClassStatement 8 (.ref b)) Q E s:=by
 have hT:=hk.typeIs
 obtain ⟨o,items,n,ho,_,hd,hi⟩:=hk
 unfold ofAClassStatement
 refine Ew (HR hT ?_)
 dsimp only
 rw[if_pos (by decide)]
 refine Ew (EC ?_)
 simp only[Hl,Fc,if_false]
 refine Ew (Gk ho hd ?_)
 dsimp only
 refine Ew ?_
 rw[<- L1]
 refine IT _ (λrest r s'=>r.1=none/\s'=s/\∀v∈rest,carriedByValue v=true) _ ?_ ?_ _ _ ⟨rfl,rfl,hi.byValue⟩
 ·rintro v rest r s' ⟨hr,rfl,hall⟩
  rw[qj _ (hall v E7)]
  refine Ew (EC ?_)
  simp only[Fc,if_false]
  exact EC ⟨rfl,rfl,λu hu'=>hall u (E8 _ hu')⟩
 ·rintro ⟨r1,r2⟩ s' ⟨hr,rfl,_⟩
  simp only at hr
  subst hr
  exact EC h
theorem CO {ks:List Int}{b:Addr}{vs:List EB}{Q:Bool->EG->Prop}(hk:TK prog w s.heap ks b)(hv:∀v∈vs,∃ks' b',v = .ref b'/\TK prog w s.heap ks' b')(h:Q false s) :
  E4 (Fq prog w) A (searchCouldBeSeen (.ref b) vs) Q E s:=by
 unfold searchCouldBeSeen
 refine Ew ?_
 refine IT _ (λrest r s'=>r.1=none/\s'=s/\∀v∈rest,∃ks' b',v = .ref b'/\TK prog w s.heap ks' b') _ ?_ ?_ _ _ ⟨rfl,rfl,hv⟩
 ·rintro v rest r s' ⟨hr,rfl,hall⟩
  obtain ⟨ks',b',rfl,hk'⟩:=hall v E7
  have go:∀u∈rest,∃ks' b',u = .ref b'/\TK prog w s'.heap ks' b':=λu hu'=>hall u (E8 _ hu')
  dsimp only
  split
  ·exact EC ⟨rfl,rfl,go⟩
  ·refine Ew (Lk hk ?_)
   simp only[Hl,Fc,if_false]
   refine Ew (Lk hk' ?_)
   simp only[Hl,Fc,if_false]
   refine Ew (jQ hk ?_)
   simp only[Fc,if_false]
   refine Ew (jQ hk' ?_)
   simp only[Fc,if_false]
   exact EC ⟨rfl,rfl,go⟩
 ·rintro ⟨r1,r2⟩ s' ⟨hr,rfl,_⟩
  simp only at hr
  subst hr
  exact EC h
theorem Ba {m:Nat}(h:Msk m):(m%2 == 0)=false:=by rcases h with rfl | rfl | rfl | rfl <;> rfl
theorem bF {a:Addr}{es:Array (Int×EB)}{ep:Nat}{t:SetTable}{Q:(Array (Int×EB)×Nat×SetTable)->EG->Prop}(ho:s.heap.get? a=some (aS es ep t))(T:Tab t (es.map (·.1)))(h:Q (es,ep,t) s) :
  E4 (Fq prog w) A (setState a) Q E s:=wpAny_setState_of ho rfl (by have:=T.fits;rwa [FL] at this) h
theorem ud (es:Array (Int×EB))(i:Nat)(e:Int×EB)(h:es[i]? = some e):(es.map (·.1))[i]? = some e.1:=by rw[L0,h];rfl
theorem Way.split {oc:Nat->Prop}{mask k:Nat}{p r:Probe}(h:Way oc mask k p r):∀{k':Nat} {r':Probe},Way oc mask k' p r'->k<=k'->Way oc mask (k'-k) r r':=by
 induction h with
 | here p=>intro k' r' h2 _;exact h2
 | @step n p q a _ ih =>
  intro k' r' h2 l
  cases h2 with
  | here=>lia
  | @step m _ _ _ h2=>rw[show m+1-(n+1)=m-n by lia];exact ih h2 (by lia)
theorem ue {a b:Addr}{es:Array (Int×EB)}{ep:Nat}{t:SetTable}{ks:List Int}{Q:SetFound->EG->Prop}(hu:A.units<cLine)(ho:s.heap.get? a=some (aS es ep t))(T:Tab t (es.map (·.1)))
    (els:∀e∈es,∃ks',ElT prog w s.heap e ks') (hk:TK prog w s.heap ks b) {q:Probe} (he:¬ occ t q.j) :
    ∀(fuel n:Nat) (st:Option Probe) (p:Probe),st.getD (start t.mask (cA prog w ks))=p->Way (occ t) t.mask n p q->n<fuel->n<10*turns t.mask->p.dummy=none →
      ((∃(k:Nat) (r:Probe) (i:Nat) (e:Int×EB),Way (occ t) t.mask k p r/\t.place[i]? = some r.j/\es[i]? = some e/\ElT prog w s.heap e ks)->Q (.there none) s) →
      ((¬ ∃(k:Nat) (r:Probe) (i:Nat) (e:Int×EB),Way (occ t) t.mask k p r/\t.place[i]? = some r.j/\es[i]? = some e/\ElT prog w s.heap e ks)->Q (.free q.j false) s) →
      E4 (Fq prog w) A (setSearchFrom a (.ref b) (cA prog w ks) true fuel st) Q E s:=by
  intro fuel
  induction fuel with
  | zero=>intro n st p _ _ h;omega
  | succ fuel ih =>
    intro n st p hst W hn hn2 hd hit mis
    unfold setSearchFrom
    refine Ew (bF ho T ?_)
    dsimp only
    rw[show t.gaveWay=false from Ba T.msk]
    simp only[Fc,if_false]
    rw[show st.getD (t.probeStart (cA prog w ks))=p from hst]
    rcases rO T (H:=λi=>(es[i]?.map (·.1)).getD 0) (h:=cA prog w ks) W he hn2 hd with ⟨g,no⟩ | ⟨k,r,i,k1,w1,e1,h1,g,w2,d2,no⟩
    · erw [g]
      dsimp only
      refine EC (mis ?_)
      rintro ⟨k,r,i,e,wr,er,ee,eb,rfl,_⟩
      refine no k r i wr er ?_
      show (es[i]?.map (·.1)).getD 0=_
      rw[ee]
      rfl
    · erw [g]
      dsimp only
      have hi:i<es.size:=by have:=fv e1;rw[T.size,FL] at this;exact this
      have ee:es[i]? = some es[i]:=Fe hi
      obtain ⟨ks',b',eq,hk'⟩:=els es[i] (Ml hi)
      rw[eq] at ee
      have hh:cA prog w ks'=cA prog w ks:=by
        have h1':(es[i]?.map (·.1)).getD 0=cA prog w ks:=h1
        rw[ee] at h1'
        exact h1'
      have tail:E4 (Fq prog w) A (do
          let equal ← JJ [E2 b'] (eqBool (.ref b') (.ref b))
          let (es',_,t') ← setState a
          if (true && equal)=true then return .there none
          let some same:=t'.sameMemory t.moves t.mask | unsupported "set.changed-during-lookup:is-the-new-block-at-the-old-address"
          let still ← match (if same then t'.slot r.j else .empty) with
            | .live i'=>match es'[i']? with
              | some (_,y')=>do pure (if ← isSame y' (.ref b') then some i' else none)
              | none=>pure none
            | _=>pure none
          match still with
          | none=>rule "set.search.anew";setSearchFrom a (.ref b) (cA prog w ks) true fuel none
          | some i'=>if equal then return .there (some i') else setSearchFrom a (.ref b) (cA prog w ks) true fuel (some (adv t.mask r))) Q E s:=by
        refine Ew (F0 (Mb hu hk' hk ?_))
        refine Ew (bF ho T ?_)
        dsimp only
        by_cases hks:ks'=ks
        · subst hks
          rw[decide_eq_true rfl]
          simp only[Bool.and_self,if_true]
          exact EC (hit ⟨k,r,i,_,w1,e1,ee,b',rfl,hk'⟩)
        · rw[decide_eq_false hks]
          simp only[HS,Fc,if_false]
          rw[show t.sameMemory t.moves t.mask=some true by unfold SetTable.sameMemory;simp]
          dsimp only
          simp only[if_true]
          rw[kA T.rise e1]
          dsimp only
          rw[ee]
          dsimp only
          refine Ew (wpAny_isSame_ref_self (Ew (EC ?_)))
          simp only[if_true]
          refine ih (n-k-1) _ _ rfl w2 (by omega) (by omega) d2 (λx=>hit ?_) λx=>mis λy=>x ?_
          · obtain ⟨k',r',i',e',a1,a2,a3,a4⟩:=x
            obtain ⟨k'',w''⟩:=w1.trans (.step ⟨i,e1⟩ a1)
            exact ⟨k'',r',i',e',w'',a2,a3,a4⟩
          · obtain ⟨k',r',i',e',a1,a2,a3,a4⟩:=y
            have hx:(es[i']?.map (·.1)).getD 0=cA prog w ks:=by
              obtain ⟨bb,rfl,_⟩:=a4
              rw[a3];rfl
            by_cases lt:k'<k
            · exact absurd hx (no k' r' i' lt a1 a2)
            · have w3:=w1.split a1 (by omega)
              cases hd3:k'-k with
              | zero =>
                rw[hd3] at w3
                cases w3
                obtain rfl:i=i':=(below_at T.rise e1).symm.trans (below_at T.rise a2)
                obtain ⟨bb,rfl,hbb⟩:=a4
                rw[ee] at a3
                injection a3 with a3
                injection a3 with a31 a32
                injection a32 with a32
                subst a32
                exact absurd (hk'.inj hbb) hks
              | succ m =>
                rw[hd3] at w3
                cases w3 with
                | step _ w3=>exact ⟨m,r',i',e',w3,a2,a3,a4⟩
      cases hl:t.led with
      | true =>
        simp only[Hl,Fc,if_false]
        rw[ee]
        exact tail
      | false =>
        simp only[Nf,if_true]
        refine Ew (CO hk (λv hv =>?_) ?_)
        · obtain ⟨e',he',rfl⟩:=E9.mp hv
          obtain ⟨ks2,b2,e2,hk2⟩:=els e' (Array.mem_of_mem_filter (Fu.mp he'))
          exact ⟨ks2,b2,by rw[e2],hk2⟩
        · simp only[Fc,if_false]
          rw[ee]
          exact tail
end
section
variable  {prog:EV}{w:Fm}{A:FN}{E:EB->EG->Prop}{s:EG}
def dF (w:Fm)(h:Heap)(a:Addr)(es:Array (Int×EB)):Prop :=
 ∃ep t,h.get? a=some (aS es ep t)/\Tab t (es.map (·.1))/\es.size*5<t.mask*3/\t.led = !w.params.followText "set-order" /\ t.plain=true
theorem dF.at {h h':Heap}{a:Addr}{es:Array (Int×EB)}(x:dF w h a es)(e:∀o,h.get? a=some o->h'.get? a=some o):dF w h' a es :=
 let ⟨ep,t,ho,r⟩:=x;⟨ep,t,e _ ho,r⟩
theorem rR {m n:Nat}(hm:Msk m)(h1:n*5<m*3)(h2:(n+1)*5≥m*3)(h3:n<300):Msk (sizeAbove (grown (n+1))-1)/\n+1<=sizeAbove (grown (n+1))-1/\(n+1)*5<(sizeAbove (grown (n+1))-1)*3/\sizeAbove (grown (n+1))<=512:=by
 have c:n=4\/n=18\/n=76:=by
  rcases hm with rfl | rfl | rfl | rfl <;> lia
 unfold Msk
 rcases c with rfl | rfl | rfl <;> decide
theorem oS:512<=ES:=by rw[HW];lia
theorem jR {a:Addr}{es es':Array (Int×EB)}{ep:Nat}{t t':SetTable}{Q:Unit->EG->Prop}(ho:s.heap.get? a=some (aS es ep t))(hz:es'.size<=512)
  (h:∀h',Heap.SameBut a s.heap h'->h'.get? a=some (aS es' (ep+1) t')->Q () { s with heap:=h' }):E4 (Fq prog w) A (storeSet a es' t') Q E s:=by
 refine wpAny_storeSet_of (o:=aS es ep t) ho rfl ?_ (Ff hz oS)
 refine h _ (IU s.heap a _) ?_
 have:=FH (Obj.putSet es' t') ho (by rw[putSet_of es' t' (o:=aS es ep t) rfl];rfl)
 rw[putSet_of es' t' (o:=aS es ep t) rfl] at this
 exact this
theorem Tab.tooFull {t:SetTable}{hs:Array Int}(T:Tab t hs):t.tooFull=decide (hs.size*5≥t.mask*3):=by
 unfold SetTable.tooFull;rw[T.fill]
theorem oT {t:SetTable}{es:Array (Int×EB)}(T:Tab t (es.map (·.1))){n:Nat}(hn:es.size=n+1)(h1:n*5<t.mask*3)(h2:(n+1)*5≥t.mask*3)(h3:n<300) :
  ∃t' order,t.relaid (es.map (·.1)) (grown (n+1))=some (t',order)/\order.toList.Perm (FP es.size)/\Tab t' ((order.filterMap (es[·]?)).map (·.1))/\(order.filterMap (es[·]?)).toList.Perm es.toList/\t'.led=t.led/\t'.plain=t.plain/\(n+1)*5<t'.mask*3:=by
 obtain ⟨k1,k2,k3,k4⟩:=rR T.msk h1 h2 h3
 obtain ⟨t',order,e,pm,T',pe,l,p,m⟩:=A9 k1 t.finger (t.movedTo (sizeAbove (grown (n+1))-1)) t.led t.plain es (by lia)
 exact ⟨t',order,e,pm,T',pe,l,p,by rw[m];exact k3⟩
theorem uf {ks:List Int}{b:Addr}{Q:Bool->EG->Prop}(hk:TK prog w s.heap ks b)(h:Q true s):E4 (Fq prog w) A (hashByValue 8 (.ref b)) Q E s:=by
 have hT:=hk.typeIs
 obtain ⟨o,items,n,ho,_,hd,hi⟩:=hk
 unfold hashByValue
 refine Ew (HF hT F.slot_tuple_hash.lookup ?_)
 dsimp only
 refine Ew (Gk ho hd ?_)
 refine Ew ?_
 show E4 _ _ (forIn items _ _) _ _ s
 rw[<- L1]
 have hall0:∀v∈items.toList,∃k t,v = .int k t:=by
  clear hd ho
  generalize items.toList=l at hi
  induction hi with
  | nil=>intro v hv;cases hv
  | cons h1 _ ih =>
   intro v hv
   rcases EW.mp hv with rfl | hv
   ·obtain ⟨t,e⟩:=Kl h1;exact ⟨_,t,e⟩
   ·exact ih v hv
 refine IT _ (λrest r s'=>r.1=none/\s'=s/\∀v∈rest,∃k t,v=GO k t) _ ?_ ?_ _ _ ⟨rfl,rfl,hall0⟩
 ·rintro v rest r s' ⟨hr,rfl,hall⟩
  obtain ⟨k,t,rfl⟩:=hall v E7
  rw[show hashByValue 7 (.int k t)=pure true from rfl]
  refine Ew (EC ?_)
  simp only[Hl,Fc,if_false]
  exact EC ⟨rfl,rfl,λu hu'=>hall u (E8 _ hu')⟩
 ·rintro ⟨r1,r2⟩ s' ⟨hr,rfl,_⟩
  simp only at hr
  subst hr
  exact EC h
theorem Bb {a b:Addr}{es:Array (Int×EB)}{ks:List Int}{Q:Bool->EG->Prop}(hu:A.units<cLine)(I:dF w s.heap a es)(els:∀e∈es,∃ks',ElT prog w s.heap e ks')(hk:TK prog w s.heap ks b)(hz:es.size<300)
  (hin:(∃e∈es,ElT prog w s.heap e ks)->Q false s)
  (hnew:(¬ ∃e∈es,ElT prog w s.heap e ks)->∀h' es',Heap.SameBut a s.heap h'->dF w h' a es'->es'.toList.Perm ((cA prog w ks,.ref b) :: es.toList)->Q true { s with heap:=h' }) :
  E4 (Fq prog w) A (setAddHashed a (.ref b) (cA prog w ks)) Q E s:=by
 obtain ⟨ep,t,ho,T,rm,hl,hp⟩:=I
 unfold setAddHashed setAddHashedIn
 refine F0 (Ew (bF ho T ?_))
 dsimp only
 rw[show byScan (.ref b) es=false from rfl]
 simp only[Fc,if_false]
 obtain ⟨n,q,hn,W,he,hq,hd⟩:=T.ends (cA prog w ks)
 have hn':n<100000:=by
  have:t.mask<=511:=by rcases T.msk with e | e | e | e <;> lia
  unfold turns at hn
  lia
 unfold setSearch
 refine Ew (ue hu ho T els hk he 100000 n none _ rfl W hn' hn rfl (λx =>?_) λx =>?_)
 ·obtain ⟨k,r,i,e,_,_,ee,el⟩:=x
  exact EC (hin ⟨e,Array.mem_of_getElem? ee,el⟩)
 ·have nx:¬ ∃e∈es,ElT prog w s.heap e ks:=by
   rintro ⟨e,he',el⟩
   obtain ⟨i,hi,ei⟩:=Array.getElem_of_mem he'
   have ee:es[i]? = some e:=by rw[Fe hi,ei]
   have hpl:i<t.place.size:=by rw[T.size,FL];exact hi
   obtain ⟨bb,rfl,hbb⟩:=el
   obtain ⟨k,r,w1,er⟩:=T.reach i _ _ (Fe hpl) (ud es i _ ee)
   exact x ⟨k,r,i,_,w1,by rw[er];exact Fe hpl,ee,bb,rfl,hbb⟩
  dsimp only
  refine Ew (bF ho T ?_)
  dsimp only
  rw[T.zb]
  dsimp only
  rw[hp]
  simp only[if_true]
  have hz':(es.map (·.1)).size+1<=t.mask:=by
   rw[FL];have:=T.fit;rw[FL] at this
   rcases T.msk with e | e | e | e <;> rw[e] at rm ⊢ <;> lia
  have T':=T.put W he hq hz'
  rw[<- fQ es (below t.place q.j) (cA prog w ks,E2 b) (·.1),hp] at T'
  have sz:(insertAt es (below t.place q.j) (cA prog w ks,E2 b)).size=es.size+1:=cz _ _ _
  refine Ew (uf hk ?_)
  simp only[if_true]
  refine Ew (jR ho (by rw[sz];lia) λh1 sb1 ho1 =>?_)
  have pm1:=insertAt_perm es (below t.place q.j) (cA prog w ks,E2 b)
  rw[T'.tooFull,FL,sz]
  by_cases full:(es.size+1)*5≥t.mask*3
  ·rw[if_pos (by simpa using full)]
   unfold setRelay
   obtain ⟨t2,order,e2,pm2,T2,pe2,l2,p2,rm2⟩:=oT T' sz (n:=es.size) (by simpa using rm) full hz
   obtain ⟨_,_,_,sa⟩:=rR T.msk rm full hz
   refine Ew (Ew (bF (s:={ s with heap:=h1 }) ho1 T' ?_))
   dsimp only
   rw[if_neg (Nm.mpr (Ff sa oS))]
   rw[e2]
   have z2:(order.filterMap ((insertAt es (below t.place q.j) (cA prog w ks,E2 b))[·]?)).size=es.size+1:=by
    rw[<- E3,pe2.length_eq,E3,sz]
   refine Ew ?_
   show E4 _ _ (if ((order.filterMap ((insertAt es (below t.place q.j) (cA prog w ks,E2 b))[·]?)).size != (insertAt es (below t.place q.j) (cA prog w ks,E2 b)).size)=true then _ else _) _ _ _
   rw[if_neg (by rw[z2,sz];simp)]
   refine EC ?_
   dsimp only
   refine jR (s:={ s with heap:=h1 }) ho1 (by rw[z2];lia) λh2 sb2 ho2 =>?_
   refine EC (hnew nx h2 _ (sb1.trans sb2) ⟨_,_,ho2,T2,by rw[z2];exact rm2,by rw[l2];exact hl,by rw[p2]⟩ (pe2.trans pm1))
  ·rw[if_neg (by simpa using full)]
   refine EC (hnew nx h1 _ sb1 ⟨_,_,ho1,T',?_,hl,rfl⟩ pm1)
   rw[sz]
   exact Io full
end
section
variable  {prog:EV}{w:Fm}{A:FN}{E:EB->EG->Prop}{s:EG}
def ElI (e:Int×EB)(k:Int):Prop:=∃t,e=(hashInt k,GO k t)
theorem xk {es:Array (Int×EB)}(els:∀e∈es,∃k,ElI e k):ElemsOf (intKind prog w) es.toList:=by
 intro e he
 obtain ⟨k,t,rfl⟩:=els e (Fu.mp he)
 exact ⟨⟨k,Kv _ _ _ _,rfl⟩,rfl⟩
theorem xl {t:SetTable}{es:Array (Int×EB)}(T:Tab t (es.map (·.1)))(h:Int)(x:EB){n:Nat}{q:Probe}(hn:n<10*turns t.mask)(W:Way (occ t) t.mask n (start t.mask h) q)(he:¬ occ t q.j)(hq:q.j<=t.mask)(hz:es.size+1<=t.mask) :
  layNew t es h x=(insertAt es (below t.place q.j) (h,x),{ t with place:=insertAt t.place (below t.place q.j) q.j },false,false):=by
 have hf:t.freeSlot h=some (q.j,false):=by
  unfold SetTable.freeSlot
  rcases rO T (H:=λ_=>h+1) (h:=h) W he hn rfl with ⟨g,_⟩ | ⟨_,_,i,_,_,_,h1,_⟩
  ·rw[show t.probe (λ_=>h+1) h (t.probeStart h)=some (.empty q.j none) from g]
   rfl
  ·have:h+1=h:=h1
   lia
 have T':=T.put W he hq (by rw[FL];exact hz)
 rw[<- fQ es (below t.place q.j) (h,x) (·.1)] at T'
 have ft:=T'.fits
 rw[FL] at ft
 unfold layNew
 rw[hf]
 dsimp only
 rw[T.zb]
 dsimp only
 unfold SetTable.orStandIn
 rw[if_pos ft,ft]
 rfl
theorem rS {t:SetTable}{es:Array (Int×EB)}{n:Nat}{t':SetTable}{order:Array Nat}(e:t.relaid (es.map (·.1)) n=some (t',order))(pm:order.toList.Perm (FP es.size))(T':Tab t' ((order.filterMap (es[·]?)).map (·.1))) :
  relayAll t es n=(order.filterMap (es[·]?),t',false):=by
 unfold relayAll
 rw[e]
 dsimp only
 have c:coversAll order es.size=true:=by unfold coversAll;rw[List.isPerm_iff];exact pm
 have f:=T'.fits
 rw[FL] at f
 rw[c,f]
 rfl
theorem add_int {a:Addr}{es:Array (Int×EB)}{k:Int}{tok:Tok}{Q:Bool->EG->Prop}(I:dF w s.heap a es)(els:∀e∈es,∃k',ElI e k')(hz:es.size<300)
  (hin:(∃e∈es,ElI e k)->Q false s)
  (hnew:(¬ ∃e∈es,ElI e k)->∀h' es',Heap.SameBut a s.heap h'->dF w h' a es'->es'.toList.Perm ((hashInt k,.int k tok) :: es.toList)->Q true { s with heap:=h' }) :
  E4 (Fq prog w) A (setAddHashed a (.int k tok) (hashInt k)) Q E s:=by
 obtain ⟨ep,t,ho,T,rm,hl,hp⟩:=I
 have hel:=xk (prog:=prog) (w:=w) els
 have hb:es.size<scanBound:=by unfold scanBound;lia
 have hf:t.fits es.size=true:=by have:=T.fits;rwa [FL] at this
 unfold setAddHashed setAddHashedIn
 refine F0 (Ew (bF ho T ?_))
 dsimp only
 rw[byScan_of (knd:=intKind prog w) rfl hb hel]
 simp only[↓reduceIte]
 unfold setAddByScan
 refine Ew ?_
 refine Ew (HC ?_)
 refine Ew (wpAny_setScan_of (knd:=intKind prog w) (k:=k) (Kv _ _ _ _) ho rfl hf hel ?_)
 cases hr:List.findIdx? (λe=>(intKind prog w).is k e.2) es.toList with
 | some j =>
  dsimp only
  obtain ⟨hj,hpj,_⟩:=List.findIdx?_eq_some_iff_getElem.mp hr
  refine EC (EC (hin ⟨es.toList[j],Fu.mp (GJ hj),?_⟩))
  obtain ⟨k',t',e'⟩:=els es.toList[j] (Fu.mp (GJ hj))
  obtain ⟨u,e2⟩:=Kl hpj
  rw[e'] at e2
  cases e2
  exact ⟨_,e'⟩
 | none =>
  dsimp only
  have nx:¬ ∃e∈es,ElI e k:=by
   rintro ⟨e,he,t',rfl⟩
   have:=List.findIdx?_eq_none_iff.mp hr _ (Fu.mpr he)
   rw[Kv] at this
   cases this
  have hgw:∀(b:Bool) {s₁:EG} {Q':Unit->EG->Prop},Q' () s₁->E4 (Fq prog w) A (match b with | true=>rule "set.scan.the-table-gave-way" | false=>pure ()) Q' E s₁ :=
   λb s₁ Q' hq=>by cases b <;> first | exact EC hq | exact HC hq
  obtain ⟨n,q,hn,W,he,hq,hd⟩:=T.ends (hashInt k)
  have hz':es.size+1<=t.mask:=by
   rcases T.msk with e | e | e | e <;> rw[e] at rm ⊢ <;> lia
  rw[xl T (hashInt k) (.int k tok) hn W he hq hz']
  dsimp only
  refine Ew (EC (a:=()) ?_)
  have T':=T.put W he hq (by rw[FL];exact hz')
  rw[<- fQ es (below t.place q.j) (hashInt k,GO k tok) (·.1),hp] at T'
  rw[hp]
  simp only[↓reduceIte]
  refine Ew ?_
  rw[show hashByValue 8 (.int k tok)=pure true from rfl]
  refine EC ?_
  simp only[↓reduceIte]
  have sz:(insertAt es (below t.place q.j) (hashInt k,GO k tok)).size=es.size+1:=cz _ _ _
  refine Ew (jR ho (by rw[sz];lia) λh1 sb1 ho1 =>?_)
  have pm1:=insertAt_perm es (below t.place q.j) (hashInt k,GO k tok)
  rw[T'.tooFull,FL,sz]
  by_cases full:(es.size+1)*5≥t.mask*3
  ·rw[if_pos (by simpa using full)]
   obtain ⟨t2,order,e2,pm2,T2,pe2,l2,p2,rm2⟩:=oT T' sz (n:=es.size) (by simpa using rm) full hz
   rw[rS e2 pm2 T2]
   dsimp only
   have z2:(order.filterMap ((insertAt es (below t.place q.j) (hashInt k,GO k tok))[·]?)).size=es.size+1:=by
    rw[<- E3,pe2.length_eq,E3,sz]
   refine Ew (EC (a:=()) ?_)
   refine Ew (jR (s:={ s with heap:=h1 }) ho1 (by rw[z2];lia) λh2 sb2 ho2 =>?_)
   refine EC (EC (hnew nx h2 _ (sb1.trans sb2) ⟨_,_,ho2,T2,by rw[z2];exact rm2,by rw[l2];exact hl,by rw[p2]⟩ (pe2.trans pm1)))
  ·rw[if_neg (by simpa using full)]
   refine EC (EC (hnew nx h1 _ sb1 ⟨_,_,ho1,T',?_,hl,rfl⟩ pm1))
   rw[sz]
   exact Io full
end
open PySem PySem.SetTable PyProof.Rows PySem.Spec
def TS (h h':Heap):Prop:=∀b o,o.cls = .type "tuple" -> h.get? b=some o->h'.get? b=some o
structure Kd (prog:EV)(w:Fm)(κ:Type) where
 El:Heap->EB -> κ -> Prop
 hash:κ -> Int
 room:FN->Prop
 keeps:∀{h h':Heap} {v:EB} {k:κ},El h v k->TS h h'->El h' v k
 inj:∀{h:Heap} {v:EB} {k k':κ},El h v k->El h v k'->k=k'
 add:∀{A:FN} {E:EB->EG->Prop} {s:EG} {a:Addr} {es:Array (Int×EB)} {v:EB} {k:κ} {Q:Bool->EG->Prop},room A->dF w s.heap a es->(∀e∈es,∃k',e.1=hash k'/\El s.heap e.2 k')->El s.heap v k->es.size<300 →
  ((∃e∈es,El s.heap e.2 k)->∀tk,s.toks<=tk->Q false { s with toks:=tk }) →
  ((¬ ∃e∈es,El s.heap e.2 k)->∀h' es' tk,s.toks<=tk->Heap.SameBut a s.heap h'->dF w h' a es'->es'.toList.Perm ((hash k,v) :: es.toList)->Q true { s with heap:=h',toks:=tk }) →
  E4 (Fq prog w) A (setAdd a v) Q E s
theorem TK.keep {prog:EV}{w:Fm}{h h':Heap}{ks:List Int}{b:Addr}(x:TK prog w h ks b)(t:TS h h'):TK prog w h' ks b :=
 let ⟨o,items,n,ho,hc,r⟩:=x;⟨o,items,n,t b o hc ho,hc,r⟩
def lK (prog:EV)(w:Fm):Kd prog w (List Int) where
 El:=λh v ks=>∃b,v = .ref b/\TK prog w h ks b
 hash:=cA prog w
 room:=λA=>A.units<cLine
 keeps:=λ⟨b,e,x⟩ t=>⟨b,e,x.keep t⟩
 inj:=λ⟨b,e,x⟩ ⟨b',e',x'⟩=>by
  rw[e] at e';injection e' with e';subst e';exact x.inj x'
 add:=by
  intro A E s a es v k Q hu I els hv hz hin hnew
  obtain ⟨b,rfl,hk⟩:=hv
  unfold setAdd
  refine F0 (Ew (wpAny_pyHash_tuple hu hk ?_))
  have els':∀e∈es,∃ks',ElT prog w s.heap e ks':=λe he=>by
   obtain ⟨k',e1,b',e2,x⟩:=els e he
   exact ⟨k',b',LV e1 e2,x⟩
  have conv:∀e∈es,(ElT prog w s.heap e k↔∃b,e.2 = .ref b/\TK prog w s.heap k b):=λe he=>by
   constructor
   ·rintro ⟨b',rfl,x⟩;exact ⟨b',rfl,x⟩
   ·rintro ⟨b',e2,x⟩
    obtain ⟨k',e1,b2,e3,x2⟩:=els e he
    rw[e2] at e3;injection e3 with e3;subst e3
    obtain rfl:=x.inj x2
    exact ⟨b',LV e1 e2,x⟩
  refine Bb (s:={ s with toks:=s.toks+(k.length+1) }) hu I els' hk hz (λx=>hin ?_ _ (MK _ _)) λx h' es' sb I' pm=>hnew ?_ h' es' _ (MK _ _) sb I' pm
  ·obtain ⟨e,he,x⟩:=x;exact ⟨e,he,(conv e he).mp x⟩
  ·rintro ⟨e,he,y⟩;exact x ⟨e,he,(conv e he).mpr y⟩
def vj (prog:EV)(w:Fm):Kd prog w Int where
 El:=λ_ v k=>∃t,v = .int k t
 hash:=hashInt
 room:=λ_=>True
 keeps:=λx _=>x
 inj:=λ⟨t,e⟩ ⟨t',e'⟩=>by rw[e] at e';injection e'
 add:=by
  intro A E s a es v k Q _ I els hv hz hin hnew
  obtain ⟨t,rfl⟩:=hv
  unfold setAdd
  refine F0 (Ew ((intKind prog w).pyHash (k:=k) (Kv _ _ _ _) ?_))
  have els':∀e∈es,∃k',ElI e k':=λe he=>by
   obtain ⟨k',e1,t',e2⟩:=els e he
   exact ⟨k',t',LV e1 e2⟩
  have conv:∀e∈es,(ElI e k↔∃t,e.2=GO k t):=λe he=>by
   constructor
   ·rintro ⟨t',rfl⟩;exact ⟨t',rfl⟩
   ·rintro ⟨t',e2⟩
    obtain ⟨k',e1,t2,e3⟩:=els e he
    rw[e2] at e3;injection e3 with e3 e4;subst e3
    exact ⟨t',LV e1 e2⟩
  refine add_int (s:={ s with toks:=s.toks+1 }) I els' hz (λx=>hin ?_ _ (JU _)) λx h' es' sb I' pm=>hnew ?_ h' es' _ (JU _) sb I' pm
  ·obtain ⟨e,he,x⟩:=x;exact ⟨e,he,(conv e he).mp x⟩
  ·rintro ⟨e,he,y⟩;exact x ⟨e,he,(conv e he).mpr y⟩
section
variable  {prog:EV}{w:Fm}{κ:Type}(kd:Kd prog w κ)
structure Good (h:Heap)(es:Array (Int×EB))(l:List κ):Prop where
 el:∀e∈es,∃k,k∈l/\e.1=kd.hash k/\kd.El h e.2 k
 all:∀k∈l,∃e∈es,kd.El h e.2 k
 dis:es.toList.Pairwise (λe e'=>∀k,kd.El h e.2 k->¬ kd.El h e'.2 k)
 len:es.size<=l.length
variable  {kd}
theorem Good.keeps {h h':Heap}{es:Array (Int×EB)}{l:List κ}(G:Good kd h es l)(t:TS h h'):Good kd h' es l:=by
 refine ⟨λe he =>?_,λk hk =>?_,?_,G.len⟩
 ·obtain ⟨k,a,b,c⟩:=G.el e he;exact ⟨k,a,b,kd.keeps c t⟩
 ·obtain ⟨e,a,b⟩:=G.all k hk;exact ⟨e,a,kd.keeps b t⟩
 ·refine I0 (λ{e e'} he he' x k y z =>?_) G.dis
  obtain ⟨k1,_,_,c1⟩:=G.el e (Fu.mp he)
  obtain ⟨k2,_,_,c2⟩:=G.el e' (Fu.mp he')
  obtain rfl:=kd.inj y (kd.keeps c1 t)
  obtain rfl:=kd.inj z (kd.keeps c2 t)
  exact x _ c1 c2
theorem Good.nil (h:Heap):Good kd h #[] []:=⟨λe he=>(by simp at he),λk hk=>(by cases hk),(by simp),EI _⟩
theorem Good.same {h:Heap}{es:Array (Int×EB)}{l:List κ}(G:Good kd h es l){k:κ}(x:∃e∈es,kd.El h e.2 k):Good kd h es (l++[k]):=by
 refine ⟨λe he =>?_,λk' hk =>?_,G.dis,by rw[EE];have:=G.len;lia⟩
 ·obtain ⟨k,a,b⟩:=G.el e he;exact ⟨k,F6 _ a,b⟩
 ·rcases EU.mp hk with hk | hk
  ·exact G.all k' hk
  ·rw[ED] at hk;subst hk;exact x
theorem Good.more {h:Heap}{es es':Array (Int×EB)}{l:List κ}(G:Good kd h es l){k:κ}{v:EB}(hv:kd.El h v k)(x:¬ ∃e∈es,kd.El h e.2 k)(pm:es'.toList.Perm ((kd.hash k,v) :: es.toList)):Good kd h es' (l++[k]):=by
 have mem:∀e,e∈es'↔e=(kd.hash k,v)\/e∈es:=λe=>by
  rw[<- Fu,pm.mem_iff,EW,Fu]
 refine ⟨λe he =>?_,λk' hk =>?_,?_,?_⟩
 ·rcases (mem e).mp he with rfl | he
  ·exact ⟨k,E5 _ (ED.mpr rfl),rfl,hv⟩
  ·obtain ⟨k,a,b⟩:=G.el e he;exact ⟨k,F6 _ a,b⟩
 ·rcases EU.mp hk with hk | hk
  ·obtain ⟨e,a,b⟩:=G.all k' hk;exact ⟨e,(mem e).mpr (.inr a),b⟩
  ·rw[ED] at hk;subst hk;exact ⟨_,(mem _).mpr (.inl rfl),hv⟩
 ·rw[pm.pairwise_iff (λ{a b} z k y1 y2=>z k y2 y1)]
  refine List.Pairwise.cons (λe he k' y1 y2 =>?_) G.dis
  obtain rfl:=kd.inj y1 hv
  exact x ⟨e,Fu.mp he,y2⟩
 ·have:=pm.length_eq
  rw[Fg,E3,E3] at this
  rw[EE,Gh]
  have:=G.len
  lia
end
section
variable  {prog:EV}{w:Fm}{A:FN}{R:Result->EG->Prop}{I:Addr}{fp:List Addr}{G:Array GenState->Array GenState->Prop}{n:Nat}{P:Nat->EB->Prop}{St:Nat->EG->Prop}{κ:Type}{kd:Kd prog w κ}
theorem rT (W:WalksS prog w A.in1 I fp [I] G n P St)(hrm:kd.room A.in1)(hI:∀i s,St i s->∃o,s.heap.get? I=some o/\o.cls ≠ .type "tuple")(S:Addr)(hSf:S∉fp)(hIf:I∈fp)(ks:List κ)(hn:n=ks.length)(hb:n<300) :
  ∀(k i:Nat) (s:EG) (es:Array (Int×EB)),n-i=k->i<=n->St i s->(∀j v,P j v->∃q,ks[j]? = some q/\kd.El s.heap v q) →
   dF w s.heap S es->Good kd s.heap es (ks.take i) →
   (∀s' es',Moved [S,I] G s s'->dF w s'.heap S es'->Good kd s'.heap es' ks->R (.ok (.ret .none)) s') →
   IW (Fq prog w) A (.builtin "set.update.loop" ⟨[.ref S,.ref I],[]⟩) R s:=by
 have hSI:S≠I:=λe=>hSf (e ▸ hIf)
 have ts:∀i s s',St i s->Moved [I] G s s'->TS s.heap s'.heap:=λi s s' hst hm b o hc e=>by
  refine hm.heap b o (λhb =>?_) e
  rw[ED] at hb
  obtain ⟨o',e',c'⟩:=hI i s hst
  rw[hb,e'] at e;cases e;exact c' hc
 intro k
 induction k with
 | zero =>
  intro i s es hk hi hst hv hS hG hR
  have hin:i=n:=by omega
  subst hin
  refine FR Kz ?_
  rw[FF Il _]
  show E4 _ A.in1 (pyNext (.ref I) >>= _) _ _ s
  refine Ew (W.done s _ _ hst λs' hm =>?_)
  show E4 _ A.in1 (ret GV) _ _ s'
  rw[Fv (by omega)] at hG
  exact EC (hR s' es (hm.mono λb hb=>by rw[ED] at hb;simp[hb]) (hS.at λo e=>hm.heap S o (by rw[ED];exact hSI) e) (hG.keeps (ts _ _ _ hst hm)))
 | succ k ih =>
  intro i s es hk hi hst hv hS hG hR
  have hlt:i<n:=by omega
  refine FR Kz ?_
  rw[FF Il _]
  show E4 _ A.in1 (pyNext (.ref I) >>= _) _ _ s
  refine Ew (W.item i s _ _ hlt hst λv s' hP hst' hm =>?_)
  have t0:=ts _ _ _ hst hm
  obtain ⟨q,eq,hq⟩:=hv i v hP
  have hS':dF w s'.heap S es:=hS.at λo e=>hm.heap S o (by rw[ED];exact hSI) e
  have hG':=hG.keeps t0
  have tk:ks.take (i+1)=ks.take i++[q]:=by rw[Ng,eq];rfl
  show E4 _ A.in1 (JJ [v] (setAdd S v) >>= _) _ _ s'
  have hm2:Moved [S,I] G s s':=hm.mono λb hb=>by rw[ED] at hb;simp[hb]
  refine Ew (F0 (kd.add hrm hS' (λe he =>?_) (kd.keeps hq t0) ?_ (λx tk' htk =>?_) λx h' es' tk' htk sb I' pm =>?_))
  ·obtain ⟨k',_,a,b⟩:=hG'.el e he;exact ⟨k',a,b⟩
  ·have:=hG'.len;rw[Fz] at this;omega
  ·refine EC ⟨Gj Il _,ih (i+1) _ es (by omega) hlt (W.frame _ s' _ _ hst' htk λb _ o e=>e) (λj v' p =>?_) hS' (by rw[tk];exact hG'.same x) λs'' es'' hm'' a b =>?_⟩
   ·obtain ⟨q',a,b⟩:=hv j v' p;exact ⟨q',a,kd.keeps b t0⟩
   ·exact hR s'' es'' (NB W.gtrans (hm2.then_heap htk λb o _ e=>e) hm'') a b
  ·have t1:TS s'.heap h':=λb o hc e=>by
    rw[sb.2 b (λhb=>by
     obtain ⟨ep,t,ho,_⟩:=hS'
     rw[hb,ho] at e;cases e;simp[aS] at hc)]
    exact e
   refine EC ⟨Gj Il _,ih (i+1) _ es' (by omega) hlt (W.frame _ s' _ _ hst' htk λb hb o e =>?_) (λj v' p =>?_) I' (by rw[tk];exact (hG'.more (kd.keeps hq t0) x pm).keeps t1) λs'' es'' hm'' a b =>?_⟩
   ·rw[sb.2 b (λh:b=S=>hSf (h ▸ hb))];exact e
   ·obtain ⟨q',a,b⟩:=hv j v' p;exact ⟨q',a,kd.keeps (kd.keeps b t0) t1⟩
   ·refine hR s'' es'' (NB W.gtrans (hm2.then_heap htk λb o hb e =>?_) hm'') a b
    rw[sb.2 b (λh:b=S=>hb (by rw[h];exact E7))];exact e
end
section
variable  {prog:EV}{w:Fm}{A:FN}{E:EB->EG->Prop}{s:EG}
theorem vk (a:EB){Q₁:EB->EG->Prop}
    (h:Q₁ (.ref s.heap.objs.size) { s with heap:=s.heap.push (aS #[] 0 (.fresh 0 0 (!w.params.followText "set-order"))) }) :
    IW (Fq prog w) A (.call (.builtin "set.__new__") ⟨[.type "set",a],[]⟩) (wants Q₁ E) s:=by
  refine Ll ?_
  show E4 _ A.in1 (do checkBuiltinCall "set.__new__" ⟨[.type "set",a],[]⟩;again (.builtin "set.__new__" ⟨[.type "set",a],[]⟩)) _ _ s
  refine Ew (GP (PySem.F.newCall_set_1 a) (EC ⟨Gj MY _,FR F.entry_set_new ?_⟩))
  rw[FF MY _]
  unfold Builtin.«set.__new__» Builtin.Frozenset.newClass
  have hsub:=sub_set_self
  obtain ⟨hp,g,d,tk,os⟩:=s
  dsimp only
  wp_walk
  refine KU (EC ?_)
  dsimp only
  simp only[newObj]
  refine Ew (wpAny_alloc (EC ?_))
  exact EC h
theorem xo (led:Bool):Tab (.fresh 0 0 led) #[]:=by
 refine ⟨rfl,λi j a b e =>?_,rfl,λi j e =>?_,.inl rfl,FE _,λi j h e =>?_⟩ <;> (simp[SetTable.fresh] at e)
theorem mZ {h:Heap}{a:Addr}(ho:h.get? a=some (aS #[] 0 (.fresh 0 0 (!w.params.followText "set-order")))):dF w h a #[] :=
 ⟨0,_,ho,(by rw[Array.map_empty];exact xo _),(by show 0*5<7*3;decide),rfl,rfl⟩
theorem sub_tuple_set:isSubtype (.type "tuple") (.type "set")=pure false:=by rw[HA];kernel_rfl
theorem sub_tuple_frozenset:isSubtype (.type "tuple") (.type "frozenset")=pure false:=by rw[HA];kernel_rfl
end
section
variable  {prog:EV}{w:Fm}{A:FN}{E:EB->EG->Prop}{s:EG}
set_option maxHeartbeats 3200000 in
theorem gD {κ:Type}{kd:Kd prog w κ}{l:Addr}{items:Array EB}{ks:List κ}{Q:EB->EG->Prop}
  (hh:A.handled=none) (hrm:kd.room A.in1.in1.in1) (hl:s.heap.IsTuple l items) (hz:items.size=ks.length) (hi:∀(i:Nat) v,items[i]? = some v->∃q,ks[i]? = some q/\kd.El s.heap v q) (hb:items.size<300)
  (h:∀(h':Heap) (es:Array (Int×EB)) (tk:Nat),s.toks<=tk->dF w h' s.heap.objs.size es->Good kd h' es ks →
   (∀b o,s.heap.get? b=some o->h'.get? b=some o)->Q (.ref s.heap.objs.size) { s with heap:=h',toks:=tk }) :
  E4 (Fq prog w) A (call (.type "set") [.ref l]) Q E s:=by
 obtain ⟨c,tl,hmro⟩:=GH.mro
 have hmade:=GH.made
 have hsub:=GH.sub
 refine Mw (Ll ?_)
 show E4 _ _ (callAny (.type "set") _) _ _ _
 refine EC ⟨Kf _ (by decide +kernel),FR Mm ?_⟩
 rw[L4 (Lm "set" [.ref l] []) rfl]
 have h1:=GH.notType
 have h2:=GH.canCreate
 have hct:=K1 (.ref l)
 repeat (any_goals (first | assumption | wp_step))
 have gd:(s.heap.push (aS #[] 0 (.fresh 0 0 (!w.params.followText "set-order")))).objs.size=s.heap.objs.size+1:=FK _ _
 refine Jc (vk (w:=w) (.ref l) (E:=E) (Q₁:=λobj s₁=>obj = .ref s.heap.objs.size/\s₁={ s with heap:=s.heap.push (aS #[] 0 (.fresh 0 0 (!w.params.followText "set-order"))) }) ⟨rfl,rfl⟩) λr s₁ hr =>?_
 cases r with
 | error e=>exact hr
 | ok fl =>
  cases fl with
  | ret obj =>
   obtain ⟨rfl,rfl⟩:=hr
   generalize hled:(!w.params.followText "set-order")=led at gd ⊢
   have hS:(s.heap.push (aS #[] 0 (.fresh 0 0 led))).get? s.heap.objs.size=some (aS #[] 0 (.fresh 0 0 led)):=EK _ rfl
   have hT:Shared.TypeIs { s with heap:=s.heap.push (aS #[] 0 (.fresh 0 0 led)) } (.ref s.heap.objs.size) "set" :=⟨_,hS,rfl⟩
   have hli:=GH.init.lookup
   have hbi:=GH.init.bind (.ref s.heap.objs.size)
   repeat (any_goals (first | assumption | wp_step))
   refine Jc (JK (R:=wants (λr s₂=>r = .none/\∃h' es tk,s₂={ s with heap:=h',toks:=tk }/\s.toks<=tk ∧
     dF w h' s.heap.objs.size es/\Good kd h' es ks ∧
     (∀b o,s.heap.get? b=some o->h'.get? b=some o)) E) GH.init.plain ML (check_set_init_1 hT ?_)) λr₂ s₂ hr₂ =>?_
   ·obtain ⟨ol,hol,hcl,nl,hdl⟩:=id hl
    obtain ⟨ocls,odict,odata,oslots⟩:=ol
    simp only at hcl hdl
    subst hcl;subst hdl
    have hol':(s.heap.push (aS #[] 0 (.fresh 0 0 led))).get? l=some { cls :=.type "tuple",dict:=odict,data :=.seq items nl,slots:=oslots }:=Ey _ hol
    have hsls:=sub_tuple_set
    have hslf:=sub_tuple_frozenset
    have hne:(Hk "tuple" == Hk "dict")=false:=by decide
    have hl1:(s.heap.push (aS #[] 0 (.fresh 0 0 led))).IsTuple l items:=⟨_,hol',rfl,nl,rfl⟩
    unfold Builtin.«set.__init__» noKeywords Builtin.Frozenset.updateFrom
    generalize hPI:pyIter=PI
    wp_walk
    subst hPI
    refine GS hl1 ?_
    refine Ew (Jw ?_)
    have hlS:l<s.heap.objs.size:=EN hol
    have hh3:A.in1.in1.in1.handled=none:=by simp[hh]
    have hneI:l≠(s.heap.push (aS #[] 0 (.fresh 0 0 led))).objs.size:=by
     rw[gd];exact EY (FV hlS)
    have hSf:s.heap.objs.size∉[(s.heap.push (aS #[] 0 (.fresh 0 0 led))).objs.size,l]:=by
     rw[gd];simp only[EW,ED,JH,or_false,not_or]
     exact ⟨EY (F8 _),GZ hlS⟩
    refine rT (kd:=kd) ((KA hh3 _ l hneI items).toS) hrm (λi s' st =>?hI) s.heap.objs.size hSf E7 ks hz hb (items.size-0) 0 _ #[] (by lia) (FE _)
     ⟨⟨_,EK _ rfl,rfl,rfl⟩,(hl1.push _)⟩ ?hv (by subst hled;exact mZ (Ey _ hS)) (Good.nil _) ?hR
    case hI =>
     obtain ⟨o,ho,hc,_⟩:=st.1
     exact ⟨o,ho,by rw[hc];decide⟩
    case hv =>
     intro j v hv
     obtain ⟨q,e,x⟩:=hi j v hv
     exact ⟨q,e,kd.keeps x λb o _ e=>Ey _ (Ey _ e)⟩
    case hR =>
     intro s' es' hm hS' hG'
     obtain ⟨h',g',d',tk',os'⟩:=s'
     have eg:g'=s.gens:=hm.gens
     have ed:d'=s.drawn:=hm.drawn
     have eo:os'=s.os:=hm.os
     subst eg;subst ed;subst eo
     show E4 _ _ _ _ _ _
     refine EC ?_
     show E4 _ _ (ret GV) _ _ _
     refine EC ⟨rfl,h',es',tk',rfl,hm.toks,hS',hG',λb o e =>?_⟩
     have hbb:=EN e
     have hb1:b≠s.heap.objs.size:=EY hbb
     have hb2:b≠(s.heap.push (aS #[] 0 (.fresh 0 0 led))).objs.size:=by
      rw[gd];exact EY (FV hbb)
     exact hm.heap b o (by simp only[EW,ED,JH,or_false,not_or];exact ⟨hb1,hb2⟩) (Ey _ (Ey _ e))
   ·cases r₂ with
    | error e=>exact hr₂
    | ok fl₂ =>
     cases fl₂ with
     | ret r =>
      obtain ⟨rfl,h',es,tk,rfl,htk,hS',hG',hk'⟩:=hr₂
      repeat (any_goals (first | assumption | wp_step))
      exact h _ _ _ htk hS' hG' hk'
     | _=>exact hr₂.elim
  | _=>exact hr.elim
end
section
variable  {prog:EV}{w:Fm}{A:FN}{E:EB->EG->Prop}{s:EG}
set_option maxHeartbeats 3200000 in
theorem call_set_list {κ:Type}{kd:Kd prog w κ}{l:Addr}{items:Array EB}{ks:List κ}{Q:EB->EG->Prop}
  (hh:A.handled=none) (hrm:kd.room A.in1.in1.in1) (hl:s.heap.IsList l items) (hz:items.size=ks.length) (hi:∀(i:Nat) v,items[i]? = some v->∃q,ks[i]? = some q/\kd.El s.heap v q) (hb:items.size<300)
  (h:∀(h':Heap) (es:Array (Int×EB)) (tk:Nat),s.toks<=tk->dF w h' s.heap.objs.size es->Good kd h' es ks →
   (∀b o,s.heap.get? b=some o->h'.get? b=some o)->Q (.ref s.heap.objs.size) { s with heap:=h',toks:=tk }) :
  E4 (Fq prog w) A (call (.type "set") [.ref l]) Q E s:=by
 obtain ⟨c,tl,hmro⟩:=GH.mro
 have hmade:=GH.made
 have hsub:=GH.sub
 refine Mw (Ll ?_)
 show E4 _ _ (callAny (.type "set") _) _ _ _
 refine EC ⟨Kf _ (by decide +kernel),FR Mm ?_⟩
 rw[L4 (Lm "set" [.ref l] []) rfl]
 have h1:=GH.notType
 have h2:=GH.canCreate
 have hct:=K1 (.ref l)
 repeat (any_goals (first | assumption | wp_step))
 have gd:(s.heap.push (aS #[] 0 (.fresh 0 0 (!w.params.followText "set-order")))).objs.size=s.heap.objs.size+1:=FK _ _
 refine Jc (vk (w:=w) (.ref l) (E:=E) (Q₁:=λobj s₁=>obj = .ref s.heap.objs.size/\s₁={ s with heap:=s.heap.push (aS #[] 0 (.fresh 0 0 (!w.params.followText "set-order"))) }) ⟨rfl,rfl⟩) λr s₁ hr =>?_
 cases r with
 | error e=>exact hr
 | ok fl =>
  cases fl with
  | ret obj =>
   obtain ⟨rfl,rfl⟩:=hr
   generalize hled:(!w.params.followText "set-order")=led at gd ⊢
   have hS:(s.heap.push (aS #[] 0 (.fresh 0 0 led))).get? s.heap.objs.size=some (aS #[] 0 (.fresh 0 0 led)):=EK _ rfl
   have hT:Shared.TypeIs { s with heap:=s.heap.push (aS #[] 0 (.fresh 0 0 led)) } (.ref s.heap.objs.size) "set" :=⟨_,hS,rfl⟩
   have hli:=GH.init.lookup
   have hbi:=GH.init.bind (.ref s.heap.objs.size)
   repeat (any_goals (first | assumption | wp_step))
   refine Jc (JK (R:=wants (λr s₂=>r = .none/\∃h' es tk,s₂={ s with heap:=h',toks:=tk }/\s.toks<=tk ∧
     dF w h' s.heap.objs.size es/\Good kd h' es ks ∧
     (∀b o,s.heap.get? b=some o->h'.get? b=some o)) E) GH.init.plain ML (check_set_init_1 hT ?_)) λr₂ s₂ hr₂ =>?_
   ·obtain ⟨ol,hol,hcl,nl,hdl⟩:=id hl
    obtain ⟨ocls,odict,odata,oslots⟩:=ol
    simp only at hcl hdl
    subst hcl;subst hdl
    have hol':(s.heap.push (aS #[] 0 (.fresh 0 0 led))).get? l=some { cls :=.type "list",dict:=odict,data :=.seq items nl,slots:=oslots }:=Ey _ hol
    have hsls:=PySem.F.sub_list_set
    have hslf:=PySem.F.sub_list_frozenset
    have hne:(Hk "list" == Hk "dict")=false:=by decide
    have hl1:(s.heap.push (aS #[] 0 (.fresh 0 0 led))).IsList l items:=⟨_,hol',rfl,nl,rfl⟩
    unfold Builtin.«set.__init__» noKeywords Builtin.Frozenset.updateFrom
    generalize hPI:pyIter=PI
    wp_walk
    subst hPI
    refine Hi hl1 ?_
    refine Ew (Jw ?_)
    have hlS:l<s.heap.objs.size:=EN hol
    have hh3:A.in1.in1.in1.handled=none:=by simp[hh]
    have hneI:l≠(s.heap.push (aS #[] 0 (.fresh 0 0 led))).objs.size:=by
     rw[gd];exact EY (FV hlS)
    have hSf:s.heap.objs.size∉[(s.heap.push (aS #[] 0 (.fresh 0 0 led))).objs.size,l]:=by
     rw[gd];simp only[EW,ED,JH,or_false,not_or]
     exact ⟨EY (F8 _),GZ hlS⟩
    refine rT (kd:=kd) ((Lo hh3 _ l hneI items).toS) hrm (λi s' st =>?hI) s.heap.objs.size hSf E7 ks hz hb (items.size-0) 0 _ #[] (by lia) (FE _)
     ⟨⟨_,EK _ rfl,rfl,rfl⟩,(hl1.push _)⟩ ?hv (by subst hled;exact mZ (Ey _ hS)) (Good.nil _) ?hR
    case hI =>
     obtain ⟨o,ho,hc,_⟩:=st.1
     exact ⟨o,ho,by rw[hc];decide⟩
    case hv =>
     intro j v hv
     obtain ⟨q,e,x⟩:=hi j v hv
     exact ⟨q,e,kd.keeps x λb o _ e=>Ey _ (Ey _ e)⟩
    case hR =>
     intro s' es' hm hS' hG'
     obtain ⟨h',g',d',tk',os'⟩:=s'
     have eg:g'=s.gens:=hm.gens
     have ed:d'=s.drawn:=hm.drawn
     have eo:os'=s.os:=hm.os
     subst eg;subst ed;subst eo
     show E4 _ _ _ _ _ _
     refine EC ?_
     show E4 _ _ (ret GV) _ _ _
     refine EC ⟨rfl,h',es',tk',rfl,hm.toks,hS',hG',λb o e =>?_⟩
     have hbb:=EN e
     have hb1:b≠s.heap.objs.size:=EY hbb
     have hb2:b≠(s.heap.push (aS #[] 0 (.fresh 0 0 led))).objs.size:=by
      rw[gd];exact EY (FV hbb)
     exact hm.heap b o (by simp only[EW,ED,JH,or_false,not_or];exact ⟨hb1,hb2⟩) (Ey _ (Ey _ e))
   ·cases r₂ with
    | error e=>exact hr₂
    | ok fl₂ =>
     cases fl₂ with
     | ret r =>
      obtain ⟨rfl,h',es,tk,rfl,htk,hS',hG',hk'⟩:=hr₂
      repeat (any_goals (first | assumption | wp_step))
      exact h _ _ _ htk hS' hG' hk'
     | _=>exact hr₂.elim
  | _=>exact hr.elim
end
namespace F9
theorem fR:Slot "set_iterator" "__next__" "set_iterator.__next__" :=
 .of (owner := "set_iterator") (n := "__next__") (by rw[Ig,G6];kernel_rfl) (by decide +kernel) (by decide +kernel) (by decide +kernel)
  (by first | exact .inl (by decide +kernel) | exact .inr (by decide +kernel)) (by rw[HA];kernel_rfl)
theorem oj:entryFor table "set_iterator.__next__" = some Builtin.«set_iterator.__next__» := KW (by kernel_rfl)
theorem qk (a:EB):argsOk "set_iterator.__next__" ⟨[a],[]⟩:=by
 unfold argsOk;kernel_rfl
theorem m3:entryFor table "set.__iter__" = some Builtin.«frozenset.__iter__» :=
 entryFor_alias (id' := "frozenset.__iter__") (by kernel_rfl) rfl (by decide +kernel) (by kernel_rfl)
end F9
theorem m5 {α:Type}:∀(l:List α) (i:Nat) (x:α),l[i]? = some x->(x :: l.eraseIdx i).Perm l
 | [],i,x,h=>by simp at h
 | y :: l,0,x,h=>by simp at h;subst h;exact LH _
 | y :: l,i+1,x,h=>by
  rw[Hy] at h
  rw[List.eraseIdx_cons_succ]
  exact (List.Perm.swap y x _).trans (List.Perm.cons y (m5 l i x h))
theorem vn {α:Type}(next:Nat->Nat):∀(fuel k:Nat) (left:List α) (out:Array α),left.length=fuel->(pickOrder.go next fuel k left out).toList.Perm (out.toList++left)
 | 0,k,left,out,h=>by
  have:left=[]:=GN.mp h
  subst this
  unfold pickOrder.go
  rw[FQ]
 | fuel+1,k,left,out,h=>by
  unfold pickOrder.go
  have hl:next k%left.length<left.length:=Jp _ (by lia)
  have e:=EA hl
  rw[e]
  dsimp only
  have ih:=vn next fuel (k+1) (left.eraseIdx (next k%left.length)) (out.push left[next k%left.length]) (by rw[List.length_eraseIdx,if_pos hl];lia)
  refine ih.trans ?_
  rw[Jo,HB]
  exact List.Perm.append_left _ (m5 _ _ _ e)
theorem xp {α:Type}(next:Nat->Nat)(xs:Array α):(pickOrder next xs).toList.Perm xs.toList:=by
 unfold pickOrder
 have:=vn next xs.size 0 xs.toList #[] (by simp)
 simpa using this
section
variable  {prog:EV}{w:Fm}{A:FN}{E:EB->EG->Prop}{s:EG}
def walkVals (w:Fm)(a:Addr)(es:Array (Int×EB))(ep:Nat):List EB :=
 if w.params.followText "set-order" = true then (pickOrder (w.params.setOrder a ep) es).toList.map (·.2) else es.toList.map (·.2)
theorem oU (w:Fm)(a:Addr)(es:Array (Int×EB))(ep:Nat):(walkVals w a es ep).Perm (es.toList.map (·.2)):=by
 unfold walkVals
 split
 ·exact (xp _ _).map _
 ·exact LH _
theorem kB {Q:Bool->EG->Prop}(h:Q (w.params.followText "set-order") s):E4 (Fq prog w) A setsByText Q E s:=by
 unfold setsByText
 exact Ew (KU (EC h))
theorem ug {a:Addr}{es:Array (Int×EB)}{ep:Nat}{t:SetTable}{Q:Option (EB×Nat)->EG->Prop}(ho:s.heap.get? a=some (aS es ep t))(T:Tab t (es.map (·.1)))(hl:t.led = !w.params.followText "set-order")(hp:t.plain=true){slot i:Nat}
  (hs:w.params.followText "set-order" = false->below t.place slot=i)
  (hy:∀x slot',(walkVals w a es ep)[i]? = some x->(w.params.followText "set-order" = false->below t.place slot'=i+1)->Q (some (x,slot')) s)
  (hn:(walkVals w a es ep)[i]? = none->Q none s):E4 (Fq prog w) A (setNext a slot i ep) Q E s:=by
 unfold setNext
 refine Ew (bF ho T ?_)
 dsimp only
 refine Ew (kB ?_)
 cases hb:w.params.followText "set-order" with
 | true =>
  rw[hb] at hs hy
  simp only[bne_self_eq_false,Fc,if_true,if_false]
  refine Ew ?_
  unfold setWalk
  refine Ew (bF ho T ?_)
  dsimp only
  refine Ew (kB ?_)
  rw[hb]
  simp only[if_true]
  refine Ew (KU (EC ?_))
  refine EC ?_
  have ew:(walkVals w a es ep)[i]? = ((pickOrder (w.params.setOrder a ep) es)[i]?).map (·.2):=by
   unfold walkVals
   rw[if_pos hb,ET,FO]
  show Q (((pickOrder (w.params.setOrder a ep) es)[i]?).map λe=>(e.2,slot)) s
  cases hx:(pickOrder (w.params.setOrder a ep) es)[i]? with
  | none=>rw[hx] at ew;exact hn ew
  | some e=>rw[hx] at ew;exact hy _ _ ew (λq=>by cases q)
 | false =>
  have hs':=hs hb
  simp only[Fc,if_false]
  have ew:(walkVals w a es ep)[i]? = (es[i]?).map (·.2):=by
   unfold walkVals
   rw[if_neg (by rw[hb];exact EO),ET,FO]
  show E4 _ _ (if (!t.plain && decide (es.size>1))=true then _ else _) _ _ _
  rw[hp]
  simp only[Hl,GW,Fc,if_false]
  refine Ew ?_
  show E4 _ _ (if (!t.led && !es.isEmpty)=true then _ else _) _ _ _
  rw[hl,hb]
  simp only[Nf,Hl,GW,Fc,if_false]
  refine EC ?_
  rw[hs']
  by_cases hi:i<es.size
  ·have ee:es[i]? = some es[i]:=Fe hi
   have hpl:i<t.place.size:=by rw[T.size,FL];exact hi
   have ep':t.place[i]? = some t.place[i]:=Fe hpl
   rw[ee,ep']
   rw[ee] at ew
   exact EC (hy _ _ ew λ_=>t9 T.rise ep')
  ·have ee:es[i]? = none:=HI (by lia)
   rw[ee]
   rw[ee] at ew
   exact EC (hn ew)
def kD (h:Heap)(it a:Addr)(slot i n ep:Nat):Prop:=h.get? it=some { cls :=.type "set_iterator",data :=.fields #[.int slot 0,.int i 0,.ref a,.int n 0,.int ep 0] }
theorem kD.typeIs {it a:Addr}{slot i n ep:Nat}(x:kD s.heap it a slot i n ep):s.TypeIs (.ref it) "set_iterator" :=⟨_,x,rfl⟩
end
open PySem PySem.SetTable PyProof.Rows
section
variable  {prog:EV}{w:Fm}{A:FN}{E:EB->EG->Prop}{s:EG}
structure uh (w:Fm)(h:Heap)(it a:Addr)(es:Array (Int×EB))(ep i:Nat):Prop where
 st:∃t slot,h.get? a=some (aS es ep t)/\Tab t (es.map (·.1))/\t.led=(!w.params.followText "set-order")/\t.plain=true/\(w.params.followText "set-order" = false->below t.place slot=i)/\kD h it a slot i es.size ep
theorem vo {it a:Addr}{es:Array (Int×EB)}{ep i:Nat}{Q:Option EB->EG->Prop}(hh:A.handled=none)(hne:it≠a)(O:uh w s.heap it a es ep i)
  (hy:∀x h',(walkVals w a es ep)[i]? = some x->uh w h' it a es ep (i+1)->Heap.SameBut it s.heap h'->Q (some x) { s with heap:=h' })
  (hn:(walkVals w a es ep)[i]? = none->∀h',Heap.ExtBut it s.heap h'->Q none { s with heap:=h' }) :
  E4 (Fq prog w) A (pyNext (.ref it)) Q E s:=by
 obtain ⟨t,slot,ho,T,hl,hp,hs,hit⟩:=O.st
 have hf:t.fits es.size=true:=by have:=T.fits;rwa [FL] at this
 unfold pyNext
 refine Ew (Hz (F7 (name:=Str.ofString "__next__") hit.typeIs F9.fR
  (FX F9.fR hit.typeIs F9.oj ?_ (F9.qk _))))
 show E4 _ _ (fieldsOf (.ref it) >>= _) _ _ s
 refine Ew (wpAny_fieldsOf hit rfl ?_)
 show E4 _ _ (setEntries a >>= _) _ _ s
 refine Ew (LO ho rfl hf ?_)
 rw[if_neg (by simp)]
 show E4 _ _ (setNext a ((slot:Int).toNat) ((i:Int).toNat) ((ep:Int).toNat) >>= _) _ _ s
 rw[GK,GK,GK]
 refine Ew (ug ho T hl hp hs (λx slot' ex hs' =>?_) λex =>?_)
 ·dsimp only
  refine Ew (GU hit (by simp) λh1 e1 sb1 =>?_)
  refine Ew (GU e1 (by simp) λh2 e2 sb2 =>?_)
  refine EC ⟨x,rfl,EC (hy x h2 ex ⟨t,slot',?_,T,hl,hp,hs',?_⟩ (sb1.trans sb2))⟩
  ·rw[(sb1.trans sb2).2 a (Gn hne)];exact ho
  ·unfold kD
   rw[e2]
   simp[Ih]
 ·dsimp only
  refine Ew (GU hit (by simp) λh1 e1 sb1 =>?_)
  show E4 _ _ (newExc (.type "StopIteration") [] >>= _) _ _ _
  refine Ew ?_
  simp only[newExc,newTuple]
  refine Ew (Ft ?_ (by size_fits))
  refine Ew (m:=firstArgMember _ _) (GP (a:=GV) (by first | rfl | (simp only[firstArgMember];rfl)) ?_)
  refine Ft ?_ (by size_fits)
  simp only[raiseNew]
  refine Ew (L9 ?_)
  first | rw[show A.in1.handled=none from hh] | rw[hh]
  refine Ew (EC (M8 ?_))
  refine Ew (HK (T := "StopIteration") (b:=true) ⟨_,EK _ rfl,rfl⟩ Kk ?_)
  exact EC (hn ex _ ((sb1.extBut.push _).push _))
theorem rV {it a S:Addr}{es:Array (Int×EB)}{ep:Nat}{res:EB}{R:Result->EG->Prop}(hh:A.in1.handled=none)(hne:it≠a)(hSI:S≠it)(hSa:S≠a)(hz:es.size<300) :
  ∀(k i:Nat) (h:Heap) (acc:Array EB) (c:Nat),es.size-i=k->i<=es.size->uh w h it a es ep i->h.get? S=some { cls :=.type "list",dict:=none,data :=.seq acc c,slots := #[] }->acc.toList=(walkVals w a es ep).take i →
  (∀h' acc' c',(∀b o,b≠S->b≠it->h.get? b=some o->h'.get? b=some o)->h'.get? S=some { cls :=.type "list",dict:=none,data :=.seq acc' c',slots := #[] }->acc'.toList=walkVals w a es ep->R (.ok (.ret res)) { s with heap:=h' }) →
  IW (Fq prog w) A (.builtin "list.extend.loop" ⟨[.ref S,.ref it,res],[]⟩) R { s with heap:=h }:=by
 have lw:(walkVals w a es ep).length=es.size:=by rw[(oU w a es ep).length_eq,Ex,E3]
 have zl:300<=ES:=by rw[HW];lia
 intro k
 induction k with
 | zero =>
  intro i h acc c hk hi O hS ha hR
  have hin:i=es.size:=by lia
  subst hin
  refine FR LK ?_
  rw[FF IV _]
  show E4 _ A.in1 (pyNext (.ref it) >>= _) _ _ { s with heap:=h }
  refine Ew (vo hh hne O (λx h' ex =>?_) λex h' xb =>?_)
  ·rw[Gi (by lia)] at ex;cases ex
  ·refine EC (hR h' acc c (λb o _ hb e=>xb b o hb e) (xb S _ hSI hS) ?_)
   rw[ha,Fv (by lia)]
 | succ k ih =>
  intro i h acc c hk hi O hS ha hR
  have hlt:i<es.size:=by lia
  refine FR LK ?_
  rw[FF IV _]
  show E4 _ A.in1 (pyNext (.ref it) >>= _) _ _ { s with heap:=h }
  refine Ew (vo hh hne O (λx h' ex O' sb =>?_) λex =>?_)
  ·have hS':h'.get? S=some { cls :=.type "list",dict:=none,data :=.seq acc c,slots := #[] }:=by rw[sb.2 S hSI];exact hS
   have hal:acc.size=i:=by rw[<- E3,ha,Fz];lia
   show E4 _ A.in1 (updateSeq S (·.push x) >>= _) _ _ _
   refine Ew ?_
   refine GX (s:={ s with heap:=h' }) hS' rfl (EC ⟨Gj IV _,ih (i+1) _ (acc.push x) _ (by lia) hlt ?_ (FH _ hS' rfl) ?_ λh'' acc' c' kk hS'' ha' =>?_⟩)
    (by rw[hal];lia) (by show (acc.push x).size<=ES+1;rw[Array.size_push,hal];lia)
   ·obtain ⟨t,slot,ho,T,hl,hp,hs,hit⟩:=O'.st
    exact ⟨t,slot,(Fd _ _ hSa).trans ho,T,hl,hp,hs,(Fd _ _ hSI).trans hit⟩
   ·rw[Jo,ha,Ng,ex];rfl
   ·refine hR h'' acc' c' (λb o hb hb2 e=>kk b o hb hb2 ?_) hS'' ha'
    refine (Fd _ _ (Gn hb)).trans ?_
    rw[sb.2 b hb2];exact e
  ·rw[EA (by lia)] at ex;cases ex
theorem rW {a:Addr}{es:Array (Int×EB)}{R:List EB->EG->Prop}(hh:A.handled=none)(I:dF w s.heap a es)(hz:es.size<300)
  (h:∀h1 vs,vs.Perm (es.toList.map (·.2))->(∀b o,s.heap.get? b=some o->h1.get? b=some o)->s.heap.objs.size<=h1.objs.size->R vs { s with heap:=h1 }) :
  E4 (Fq prog w) A (collect (.ref a)) R E s:=by
 obtain ⟨ep,t,ho,T,rm,hl,hp⟩:=I
 have hf:t.fits es.size=true:=by have:=T.fits;rwa [FL] at this
 have hlt:=EN ho
 unfold collect
 refine Ew (Jw (FR F.entry_proto_collect ?_))
 rw[FF F.plain_proto_collect _]
 show E4 _ A.in1 (newList [] >>= λl=>again (.builtin "list.__iadd__" ⟨[l,.ref a],[]⟩)) _ _ s
 refine Ew (Ft ?_)
 refine EC ⟨Gj Mn _,FR F.entry_list_iadd ?_⟩
 rw[FF Mn _]
 show E4 _ A.in1 (Gr (.ref s.heap.objs.size) (.ref a) (.ref s.heap.objs.size)) _ _ _
 unfold Gr
 have hSa:s.heap.objs.size≠a:=GZ hlt
 have z1:(s.heap.push { cls :=.type "list",data :=.seq ([]:List EB).toArray }).objs.size=s.heap.objs.size+1:=FK _ _
 have ho1:(s.heap.push { cls :=.type "list",data :=.seq ([]:List EB).toArray }).get? a=some (aS es ep t):=Ey _ ho
 have hT1:Shared.TypeIs { s with heap:=s.heap.push { cls :=.type "list",data :=.seq ([]:List EB).toArray } } (.ref a) "set" :=⟨_,ho1,rfl⟩
 refine Ew (HR hT1 ?_)
 have h1:Ii (.ref s.heap.objs.size) (.ref a)=false:=by simp[Ii,hSa]
 have h2:(Hk "set" == Hk "list")=false:=by decide
 have h3:(Hk "set" == Hk "tuple")=false:=by decide
 simp only[h1,h2,h3,Nr,Fc,if_false]
 refine Ew (Js hT1 MZ (FX MZ hT1 F9.m3 ?_ (F.args_set_iter_1 _)))
 unfold Builtin.«frozenset.__iter__» Builtin.Frozenset.slot0 slotArgs
 simp only[List.isEmpty_nil,Hl,Fc, ↓reduceIte,bind_assoc,G9,bne_self_eq_false]
 unfold Builtin.Frozenset.addrOf Builtin.Frozenset.sizeOf
 refine Ew (EC ?_)
 try dsimp only
 refine Ew (EC ?_)
 refine Ew (Ew (LO ho1 rfl hf (EC ?_)))
 refine Ew ?_
 unfold setDrawn
 refine Ew (bF ho1 T ?_)
 dsimp only
 refine Ew (kB ?_)
 show E4 _ _ (pure (!w.params.followText "set-order" && (!t.plain && decide (es.size>1)))) _ _ _
 rw[hp]
 simp only[Hl,GW,HS]
 refine EC ?_
 simp only[Fc,if_false]
 refine Ew (EC ?_)
 refine Ew (wpAny_setEpoch_of ho1 rfl hf ?_)
 refine Ew (Ft (EC ⟨_,rfl, "set_iterator",_,⟨_,EK _ rfl,rfl⟩,F9.fR.lookup,?_⟩))
 have zit:(s.heap.push { cls :=.type "list",data :=.seq ([]:List EB).toArray }).objs.size=s.heap.objs.size+1:=z1
 show E4 _ A.in1 (JJ [.ref (s.heap.push { cls :=.type "list",data :=.seq ([]:List EB).toArray }).objs.size] (HG (.ref a)) >>= _) _ _ { s with heap:=(s.heap.push { cls :=.type "list",data :=.seq ([]:List EB).toArray }).push { cls :=.type "set_iterator",data :=.fields #[Ih 0,Ih 0,.ref a,Ih es.size,Ih ep] } }
 rw[zit]
 generalize hH:(s.heap.push { cls :=.type "list",data :=.seq ([]:List EB).toArray }).push { cls :=.type "set_iterator",data :=.fields #[Ih 0,Ih 0,.ref a,Ih es.size,Ih ep] }=H
 have kH:∀b o,(s.heap.push { cls :=.type "list",data :=.seq ([]:List EB).toArray }).get? b=some o->H.get? b=some o:=λb o e=>by rw[<- hH];exact Ey _ e
 have zH:H.objs.size=s.heap.objs.size+2:=by rw[<- hH,FK,z1]
 have hit:kD H (s.heap.objs.size+1) a 0 0 es.size ep:=by
  unfold kD
  rw[<- hH, <- z1]
  exact EK _ rfl
 have hT2:Shared.TypeIs { s with heap:=H } (.ref a) "set" :=⟨_,kH _ _ ho1,rfl⟩
 refine Ew (F0 ?_)
 unfold HG
 refine Ew (HF hT2 F.slot_set_len.lookup ?_)
 dsimp only
 rw[show splitId "set.__len__" = some ("set", "__len__") by kernel_rfl]
 dsimp only
 refine Ew (HK hT2 sub_set_self ?_)
 simp only[Hl,Fc,if_false]
 show E4 _ _ (typeOf (.ref a) >>= _) _ _ _
 refine Ew (HR hT2 ?_)
 refine EC ?_
 show E4 _ A.in1 (rule "list.extend.makes-room" >>= λ_=>Builtin.List.listTouch (.ref s.heap.objs.size) >>= λ_ =>
  again (.builtin "list.extend.loop" ⟨[.ref s.heap.objs.size,.ref (s.heap.objs.size+1),.ref s.heap.objs.size],[]⟩)) _ _ _
 refine Ew (HC ?_)
 have hS₁:H.get? s.heap.objs.size=some { cls :=.type "list",data :=.seq ([]:List EB).toArray }:=kH _ _ (EK _ rfl)
 refine Ew ?_
 show E4 _ A.in1 (updateSeq s.heap.objs.size (·.push .none) >>= λ_=>updateSeq s.heap.objs.size (·.pop)) _ _ _
 refine Ew (GX (s:={ s with heap:=H }) hS₁ rfl ?_)
 have hS₂:=FH (He (·.push GV)) hS₁ rfl
 refine GX hS₂ rfl ?_
 have hS₃:=FH (He (·.pop)) hS₂ rfl
 have oth:∀b o,b≠s.heap.objs.size->H.get? b=some o->((H.update s.heap.objs.size (He (·.push GV))).update s.heap.objs.size (He (·.pop))).get? b=some o :=
  λb o hb e=>(Fd _ _ (Gn hb)).trans ((Fd _ _ (Gn hb)).trans e)
 refine EC ⟨Gj IV _,rV (it:=s.heap.objs.size+1) (a:=a) (es:=es) (ep:=ep) (s:=s) hh (GZ (FV hlt)) (EY (F8 _)) hSa hz es.size 0 _ _ _ rfl (FE _)
  ⟨t,0,oth a _ (Gn hSa) (kH _ _ ho1),T,hl,hp,λ_=>ua T.rise,oth _ _ (GZ (F8 _)) hit⟩ hS₃ rfl λh' acc' c' kk hS' ha =>?_⟩
 show E4 _ A (load s.heap.objs.size >>= _) _ _ { s with heap:=h' }
 refine Ew (Mv hS' ?_)
 have kf:∀b o,s.heap.get? b=some o->h'.get? b=some o:=λb o e=>by
  have:=EN e
  exact kk b o (EY this) (EY (FV this)) (oth b o (EY this) (kH b o (Ey _ e)))
 refine EC ?_
 rw[ha]
 exact h h' _ (oU w a es ep) kf (Gz (EN hS'))
end
open PySem PySem.SetTable PyProof.Rows Srt
def Kd.sub {prog:EV}{w:Fm}{κ:Type}(kd:Kd prog w κ)(M:EB->Prop):Kd prog w κ where
 El:=λh v k=>kd.El h v k/\M v
 hash:=kd.hash
 room:=kd.room
 keeps:=λx t=>⟨kd.keeps x.1 t,x.2⟩
 inj:=λx y=>kd.inj x.1 y.1
 add:=by
  intro A E s a es v k Q hr I els hv hz hin hnew
  refine kd.add hr I (λe he =>?_) hv.1 hz (λx tk htk=>hin ?_ tk htk) λx h' es' tk htk sb I' pm=>hnew ?_ h' es' tk htk sb I' pm
  ·obtain ⟨k',a1,a2,a3⟩:=els e he;exact ⟨k',a1,a2⟩
  ·obtain ⟨e,he,y⟩:=x
   obtain ⟨k',a1,a2,a3⟩:=els e he
   exact ⟨e,he,y,a3⟩
  ·rintro ⟨e,he,y,_⟩;exact x ⟨e,he,y⟩
section
variable  {prog:EV}{w:Fm}{A:FN}{E:EB->EG->Prop}{s:EG}{O:Ln}{key:EB->O.α}
theorem ui {a:Addr}{es:Array (Int×EB)}{Q:EB->EG->Prop}(hh:A.handled=none)(I:dF w s.heap a es)(hz:es.size<300)(h64:es.size<64)(C:∀vs:List EB,vs.Perm (es.toList.map (·.2))->me prog w s vs O key)
  (h:∀(h':Heap) (p:Addr) (out:List EB) (n:Nat),(∀b o,s.heap.get? b=some o->h'.get? b=some o)->s.heap.objs.size<=p->h'.get? p=some (seqObj "list" out.toArray n)->out.Perm (es.toList.map (·.2))->out.Pairwise (λx y=>O.kle (key x) (key y))->Q (.ref p) { s with heap:=h' }) :
  E4 (Fq prog w) A (call (.builtin "sorted") [.ref a]) Q E s:=by
 refine Ki kind_sorted plain_sorted entry_sorted (args_sorted1 _) ?_
 unfold Builtin.«sorted»
 refine Ew (m:=checkCount "sorted" 1 1 _) (EC ?_)
 refine Ew (rW (by simpa using hh) I hz λh1 vs pv k1 z1 =>?_)
 have hz':vs.length<=ES:=by
  rw[pv.length_eq,Ex,E3]
  have:300<=ES:=by rw[HW];lia
  lia
 refine Ew (KL ?_ hz')
 have hoL:(h1.push (seqObj "list" vs.toArray 0)).get? h1.objs.size=some (seqObj "list" vs.toArray 0):=EK _ rfl
 have kL:∀b o,s.heap.get? b=some o->(h1.push (seqObj "list" vs.toArray 0)).get? b=some o:=λb o e=>Ey _ (k1 b o e)
 refine Ew (F0 (FX slot_list_sort ⟨_,hoL,rfl⟩ entry_list_sort (iV (key:=key) (O:=O) hoL hz' (by rw[pv.length_eq,Ex,E3];exact h64) (λh2 h6 k6 =>?_) λout pm ps=>⟨_,rfl,?_⟩) (args_list_sort _)))
 ·exact (C vs pv).ok h2 _ h6 λb o e=>k6 b o (EY (EL (EN e) z1)) (kL b o e)
 ·obtain ⟨n,en⟩:=sortedHeap_at (out:=out.toArray) hoL
  refine EC ⟨_,rfl,h _ _ out n (λb o e =>?_) z1 en (pm.trans pv) ps⟩
  have lt:=EL (EN e) z1
  rw[sortedHeap_old (EY lt) (by rw[Np];exact FV lt)]
  exact kL b o e
end
end STab
namespace L2
open PySem PySem.Spec PyProof.Rows
section
variable  {X:Cx}
def eZ (w:Fm)(a:Addr)(ys:List V):HO :=.ext λh=>∃es,STab.dF w h a es/\Vals ys (es.toList.map (·.2))
theorem vp {prog:EV}{w:Fm}{H:Hp}{h:Heap}{a:Addr}{ys:List V}{es:Array (Int×EB)}(I:STab.dF w h a es)(r:Vals ys (es.toList.map (·.2))):ba prog w (upd H a (eZ w a ys)) h a (eZ w a ys):=by
 refine ⟨⟨es,I,r⟩,?_,λh1 h2 ⟨es',I',r'⟩ k=>⟨es',I'.at k,r'⟩⟩
 obtain ⟨ep,t,ho,_⟩:=I
 exact ⟨_,ho⟩
theorem rX:∀{ns:List Int} {xs:List EB} {prog:EV} {w:Fm},Hj xs ns->ItemsAre (intKind prog w) ns xs
 | _,_,_,_,.nil =>.nil
 | _,_,_,_,.cons n t r =>.cons (Kv _ _ _ _) (rX r)
theorem Inv.tk {pins:List (Addr×Obj)}{σ:St}{H:Hp}{s:EG}(I:Inv X pins σ H s){b:Addr}{ns:List Int}(h:SqT X.K H b (ns.map V.int)):STab.TK X.prog X.w s.heap ns b:=by
 obtain ⟨its,r,⟨o,e,c,n,d⟩,_⟩:=I.tuple h
 exact ⟨o,_,n,e,c,d,rX (by simpa using cQ r)⟩
theorem pull {α β:Type}{f:α -> β}{ts:List α}:∀{l:List β},(∀v∈l,∃t∈ts,v=f t)->∃us:List α,l=us.map f/\∀t∈us,t∈ts
 | [],_=>⟨[],rfl,λt h=>by cases h⟩
 | v :: l,h=>by
  obtain ⟨t,ht,e⟩:=h v E7
  obtain ⟨us,e2,m⟩:=pull (l:=l) λv' hv=>h v' (E8 _ hv)
  refine ⟨t :: us,by rw[EZ, <- e, <- e2],λt' ht' =>?_⟩
  rcases EW.mp ht' with rfl | h'
  ·exact ht
  ·exact m _ h'
theorem xq (hh:X.A.handled=none)(hu:X.A.units+64<cLine):bD X (.type "set") (λxs H Q=>∃(p:Addr) (ts:List (Addr×List Int)),xs=[.ref p]/\(SqL X.K H p (ts.map λt =>.ref t.1)\/SqT X.K H p (ts.map λt =>.ref t.1))/\(∀t∈ts,SqT X.K H t.1 (t.2.map V.int))/\ts.length<300 ∧
  ∀(a:Addr) (us:List (Addr×List Int)),H a=none->(∀t∈us,t∈ts)->(us.map (·.2)).Nodup->(∀t∈ts,t.2∈us.map (·.2))->us.length<=ts.length->Q (.ref a) (upd H a (eZ X.w a (us.map λt =>.ref t.1)))):=by
 intro pins s σ H xs vs Q I r h
 obtain ⟨p,ts,rfl,hs,ht,hl,q⟩:=h
 obtain ⟨u,rfl,ru⟩:=vals1 r
 cases (show u=E2 p from ru)
 have goal:∀(items:Array EB),items.toList=(ts.map λt=>E2 t.1)->∀(h':Heap) (es:Array (Int×EB)) (tk:Nat),s.toks<=tk->STab.dF X.w h' s.heap.objs.size es->STab.Good ((STab.lK X.prog X.w).sub (· ∈ items.toList)) h' es (ts.map (·.2)) →
   (∀b o,s.heap.get? b=some o->h'.get? b=some o)->EP X pins σ Q (.ref s.heap.objs.size) { s with heap:=h',toks:=tk }:=by
  intro items ei h' es tk _ S G k
  obtain ⟨us,eu,mu⟩:=pull (f:=λt:Addr×List Int=>E2 t.1) (ts:=ts) (l:=es.toList.map (·.2)) (λv hv=>by
   obtain ⟨e,he,rfl⟩:=E9.mp hv
   obtain ⟨_,_,_,_,m⟩:=G.el e (Fu.mp he)
   rw[ei] at m
   obtain ⟨t,ht',e'⟩:=E9.mp m
   exact ⟨t,ht',e'.symm⟩)
  have tk':∀t∈us,STab.TK X.prog X.w h' t.2 t.1:=λt m=>(I.tk (ht t (mu t m))).keep λb o _ e=>k b o e
  have elu:∀t∈us,((STab.lK X.prog X.w).sub (· ∈ items.toList)).El h' (.ref t.1) t.2:=λt m=>⟨⟨t.1,rfl,tk' t m⟩,by
   rw[ei];exact E9.mpr ⟨t,mu t m,rfl⟩⟩
  have nd:(us.map (·.2)).Nodup:=by
   have d:=G.dis
   have d2:(es.toList.map (·.2)).Pairwise (λv v'=>∀k,((STab.lK X.prog X.w).sub (· ∈ items.toList)).El h' v k->¬ ((STab.lK X.prog X.w).sub (· ∈ items.toList)).El h' v' k):=by
    rw[Gq];exact d
   rw[eu,Gq] at d2
   unfold List.Nodup
   rw[Gq]
   refine d2.imp_of_mem λ{t t'} m m' x e=>x t.2 (elu t m) ?_
   have:=elu t' m'
   rw[<- e] at this
   exact this
  have cov:∀t∈ts,t.2∈us.map (·.2):=λt m=>by
   obtain ⟨e,he,x,_⟩:=G.all t.2 (E9.mpr ⟨t,m,rfl⟩)
   have:e.2∈us.map λt=>E2 t.1:=by rw[<- eu];exact E9.mpr ⟨e,Fu.mpr he,rfl⟩
   obtain ⟨u,hu',e'⟩:=E9.mp this
   obtain ⟨b,eb,x⟩:=x
   rw[<- e'] at eb
   injection eb with eb
   subst eb
   exact E9.mpr ⟨u,hu',(tk' u hu').inj x⟩
  have hlen:us.length<=ts.length:=by
   have:=G.len
   rw[Ex] at this
   have e2:=congrArg List.length eu
   rw[Ex,Ex,E3] at e2
   lia
  refine ⟨.ref s.heap.objs.size,_,I.laid k (EI _) (vp (ys:=us.map λt=>V.ref t.1) S (by rw[eu];exact iz)),rfl,q _ us (I.hok.fresh (EI _)) mu nd cov hlen⟩
 have rm:((STab.lK X.prog X.w).sub (λv=>True)).room X.A.in1.in1.in1:=by show X.A.units+1+1+1<cLine;lia
 have itm:∀(its:List EB),its=(ts.map λt=>E2 t.1)->∀(i:Nat) (v:EB),its.toArray[i]? = some v->∃q,(ts.map (·.2))[i]? = some q/\((STab.lK X.prog X.w).sub (· ∈ its.toArray.toList)).El s.heap v q:=by
  intro its ei i v hv
  rw[Fj,ei,ET] at hv
  cases ht':ts[i]? with
  | none=>rw[ht'] at hv;cases hv
  | some t =>
   rw[ht'] at hv
   cases hv
   have m:=EH ht'
   refine ⟨t.2,by rw[ET,ht'];rfl,⟨t.1,rfl,I.tk (ht t m)⟩,?_⟩
   show E2 t.1∈its
   rw[ei]
   exact E9.mpr ⟨t,m,rfl⟩
 rcases hs with hs | hs
 ·obtain ⟨its,rv,⟨o,n,e,c,dn,d⟩,z⟩:=I.list hs
  have ei:=fq rv
  have lz:its.length=ts.length:=by rw[ei,Ex]
  refine STab.call_set_list (kd:=(STab.lK X.prog X.w).sub (· ∈ its.toArray.toList)) (items:=its.toArray) (ks:=ts.map (·.2)) hh rm ⟨o,e,c,n,d⟩ (by simp[lz]) (λi v hv =>?_) (by simpa [lz] using hl) (goal its.toArray (by simpa using ei))
  exact itm its ei i v hv
 ·obtain ⟨its,rv,⟨o,e,c,n,d⟩,z⟩:=I.tuple hs
  have ei:=fq rv
  have lz:its.length=ts.length:=by rw[ei,Ex]
  refine STab.gD (kd:=(STab.lK X.prog X.w).sub (· ∈ its.toArray.toList)) (items:=its.toArray) (ks:=ts.map (·.2)) hh rm ⟨o,e,c,n,d⟩ (by simp[lz]) (λi v hv =>?_) (by simpa [lz] using hl) (goal its.toArray (by simpa using ei))
  exact itm its ei i v hv
theorem xr (hh:X.A.handled=none):bD X (.type "set") (λxs H Q=>∃(p:Addr) (ns:List Int),xs=[.ref p]/\(SqL X.K H p (ns.map V.int)\/SqT X.K H p (ns.map V.int))/\ns.length<300 ∧
  ∀(a:Addr) (us:List Int),H a=none->(∀k,k∈us↔k∈ns)->us.Nodup->us.length<=ns.length->Q (.ref a) (upd H a (eZ X.w a (us.map V.int)))):=by
 intro pins s σ H xs vs Q I r h
 obtain ⟨p,ns,rfl,hs,hl,q⟩:=h
 obtain ⟨u,rfl,ru⟩:=vals1 r
 cases (show u=E2 p from ru)
 have goal:∀(h':Heap) (es:Array (Int×EB)) (tk:Nat),s.toks<=tk->STab.dF X.w h' s.heap.objs.size es->STab.Good (STab.vj X.prog X.w) h' es ns →
   (∀b o,s.heap.get? b=some o->h'.get? b=some o)->EP X pins σ Q (.ref s.heap.objs.size) { s with heap:=h',toks:=tk }:=by
  intro h' es tk _ S G k
  have sh:∀v∈es.toList.map (·.2),∃k t,v=GO k t:=λv hv=>by
   obtain ⟨e,he,rfl⟩:=E9.mp hv
   obtain ⟨k',_,_,t,e'⟩:=G.el e (Fu.mp he)
   exact ⟨k',t,e'⟩
  have ru:=jP (kz sh)
  have mem:∀k,k∈(es.toList.map (·.2)).map Srt.intOf↔k∈ns:=λk=>by
   constructor
   ·intro m
    obtain ⟨v,hv,rfl⟩:=E9.mp m
    obtain ⟨e,he,rfl⟩:=E9.mp hv
    obtain ⟨k',mk,_,t,e'⟩:=G.el e (Fu.mp he)
    rw[e'];exact mk
   ·intro m
    obtain ⟨e,he,t,e'⟩:=G.all k m
    exact E9.mpr ⟨e.2,E9.mpr ⟨e,Fu.mpr he,rfl⟩,by rw[e'];rfl⟩
  have nd:((es.toList.map (·.2)).map Srt.intOf).Nodup:=by
   unfold List.Nodup
   rw[Gq,Gq]
   refine G.dis.imp_of_mem λ{e e'} m m' x y =>?_
   obtain ⟨k1,_,_,t1,e1⟩:=G.el e (Fu.mp m)
   obtain ⟨k2,_,_,t2,e2⟩:=G.el e' (Fu.mp m')
   rw[e1,e2] at y
   have y':k1=k2:=y
   subst y'
   exact x k1 ⟨t1,e1⟩ ⟨t2,e2⟩
  refine ⟨.ref s.heap.objs.size,_,I.laid k (EI _) (vp S ru),rfl,q _ _ (I.hok.fresh (EI _)) mem nd (by rw[Ex,Ex,E3];exact G.len)⟩
 have itm:∀(its:List EB),Vals (ns.map V.int) its->∀(i:Nat) (v:EB),its.toArray[i]? = some v->∃q,ns[i]? = some q/\(STab.vj X.prog X.w).El s.heap v q:=by
  intro its rv i v hv
  have hI:=cQ rv
  obtain ⟨t,e⟩:=IntsAre.int_at hI i v (by rw[Fj] at hv;exact hv)
  have hlt:i<ns.length:=by
   have:=hI.length
   rw[Fj] at hv
   have:=(EJ.mp hv).1
   lia
  refine ⟨ns.getD i 0,?_,t,e⟩
  rw[EF,EA hlt]
  rfl
 rcases hs with hs | hs
 ·obtain ⟨its,rv,⟨o,n,e,c,dn,d⟩,z⟩:=I.list hs
  have lz:its.length=ns.length:=by have:=rv.length;rw[Ex] at this;exact this.symm
  exact STab.call_set_list (kd:=STab.vj X.prog X.w) (items:=its.toArray) (ks:=ns) hh trivial ⟨o,e,c,n,d⟩ (by simp[lz]) (itm its rv) (by simpa [lz] using hl) goal
 ·obtain ⟨its,rv,⟨o,e,c,n,d⟩,z⟩:=I.tuple hs
  have lz:its.length=ns.length:=by have:=rv.length;rw[Ex] at this;exact this.symm
  exact STab.gD (kd:=STab.vj X.prog X.w) (items:=its.toArray) (ks:=ns) hh trivial ⟨o,e,c,n,d⟩ (by simp[lz]) (itm its rv) (by simpa [lz] using hl) goal
theorem Inv.eZ {pins:List (Addr×Obj)}{σ:St}{H:Hp}{s:EG}(I:Inv X pins σ H s){a:Addr}{ys:List V}(h:H a=some (eZ X.w a ys)):∃es,STab.dF X.w s.heap a es/\Vals ys (es.toList.map (·.2)):=by
 exact (I.hok a _ h).1
theorem om (hh:X.A.handled=none):bD X (.builtin "sorted") (λxs H Q=>∃(a:Addr) (ts:List (Addr×List Int)),xs=[.ref a]/\H a=some (eZ X.w a (ts.map λt =>.ref t.1))/\(∀t∈ts,SqT X.K H t.1 (t.2.map V.int)/\t.2≠[])/\ts.length<64 ∧
  ∀(l:Addr) (out:List (Addr×List Int)),H l=none->out.Perm ts->out.Pairwise (λa b=>HT.lexLt b.2 a.2=false)->Q (.ref l) (upd H l (.lst (out.map λt =>.ref t.1)))):=by
 intro pins s σ H xs us Q I r h
 obtain ⟨a,ts,rfl,hs,ht,hl,q⟩:=h
 obtain ⟨u,rfl,ru⟩:=vals1 r
 cases (show u=E2 a from ru)
 obtain ⟨es,S,rv⟩:=I.eZ hs
 have ei:=fq rv
 have lz:es.size=ts.length:=by have:=rv.length;simp at this;lia
 have tup:∀t∈ts,Srt.dR s.heap (E2 t.1) t.2:=λt hm=>by
  obtain ⟨jts,jr,⟨jo,je,jc,jn,jd⟩,_⟩:=I.tuple (ht t hm).1
  exact ⟨t.1,jo,_,jn,rfl,je,jc,jd,by simpa using cQ jr⟩
 have hv:∀v∈es.toList.map (·.2),∃ns,Srt.dR s.heap v ns/\ns≠[]:=λv hv=>by
  rw[ei] at hv
  obtain ⟨t,hm,rfl⟩:=E9.mp hv
  exact ⟨t.2,tup t hm,(ht t hm).2⟩
 refine STab.ui (O:=Srt.lexOrd) (key:=Srt.di s.heap) hh S (by lia) (by lia) (λvs pv=>Srt.jN λv hm=>hv v (pv.mem_iff.mp hm)) λh' l out m k hl' el pm ps =>?_
 rw[ei] at pm
 obtain ⟨out',pm',rfl⟩:=mV pm
 have z:ts.length<=ES:=by have:300<=ES:=(by rw[HW];lia);lia
 refine ⟨.ref l,_,I.newList k hl' el iz (by rw[Ex,pm'.length_eq];exact z),rfl,q l _ (I.hok.fresh hl') pm' ?_⟩
 refine (Gq.mp ps).imp_of_mem λ{a b} ha hb le =>?_
 have le':HT.lexLt (Srt.di s.heap (E2 b.1)) (Srt.di s.heap (E2 a.1))=false:=le
 rw[(tup a (pm'.mem_iff.mp ha)).ints,(tup b (pm'.mem_iff.mp hb)).ints] at le'
 exact le'
end
section
variable  {X:Cx}{w:Fm}
theorem m6 (hw:X.w=w)(hh:X.A.handled=none)(hu:X.A.units+64<cLine):bD X (.type "set") (λxs H Q=>∃(p:Addr) (ts:List (Addr×List Int)),xs=[.ref p]/\(SqL X.K H p (ts.map λt =>.ref t.1)\/SqT X.K H p (ts.map λt =>.ref t.1))/\(∀t∈ts,SqT X.K H t.1 (t.2.map V.int))/\ts.length<300 ∧
  ∀(a:Addr) (us:List (Addr×List Int)),H a=none->(∀t∈us,t∈ts)->(us.map (·.2)).Nodup->(∀t∈ts,t.2∈us.map (·.2))->us.length<=ts.length->Q (.ref a) (upd H a (eZ w a (us.map λt =>.ref t.1)))):=by
 subst hw
 exact xq hh hu
theorem uj (hw:X.w=w)(hh:X.A.handled=none):bD X (.type "set") (λxs H Q=>∃(p:Addr) (ns:List Int),xs=[.ref p]/\(SqL X.K H p (ns.map V.int)\/SqT X.K H p (ns.map V.int))/\ns.length<300 ∧
  ∀(a:Addr) (us:List Int),H a=none->(∀k,k∈us↔k∈ns)->us.Nodup->us.length<=ns.length->Q (.ref a) (upd H a (eZ w a (us.map V.int)))):=by
 subst hw
 exact xr hh
theorem gE (hw:X.w=w)(hh:X.A.handled=none):bD X (.builtin "sorted") (λxs H Q=>∃(a:Addr) (ts:List (Addr×List Int)),xs=[.ref a]/\H a=some (eZ w a (ts.map λt =>.ref t.1))/\(∀t∈ts,SqT X.K H t.1 (t.2.map V.int)/\t.2≠[])/\ts.length<64 ∧
  ∀(l:Addr) (out:List (Addr×List Int)),H l=none->out.Perm ts->out.Pairwise (λa b=>HT.lexLt b.2 a.2=false)->Q (.ref l) (upd H l (.lst (out.map λt =>.ref t.1)))):=by
 subst hw
 exact om hh
end
section
variable  {X:Cx}
def tBMT (r:V->List V->Hp->VK->Prop)(to:TE)(t:TA):TE:=λσ H Q=>to σ H λx H1=>(∃p xs,x = .ref p/\H1 p=some (.tup xs))/\t σ H1 λxs H2=>r x xs H2 Q
theorem zc {o e:Expr}{es:List Expr}{to:TE}{t:TA}{name:Str}{apos cpos:Pos}{id:String}{r:V->List V->Hp->VK->Prop}(slot:Slot "tuple" name id)(hty:typeOf (.builtin id)=pure (.type "method_descriptor"))(hm:MtR X id r)(ho:PE X o to)(ha:PA X (e :: es) t)
  (hbase:attributeBase o name X.env (eval o X.env)=eval o X.env:=by rfl)
  (hfew:((Jn cpos (FT (e :: es) X.env)).all (λx => !x.1) && (backToKw cpos (keywordEach [] X.env)).all (λx=>x.1.isSome)
   && decide ((e :: es).length+([]:List Keyword).length+(if ([]:List Keyword).isEmpty then 0 else 1)<30))=true:=by rfl)
  (hline:(apos.endLine == cpos.line)=true:=by rfl) (hs:FT (e :: es) X.env=(false,eval e X.env) :: FT es X.env:=by rfl) (hplain:(Jn cpos (FT es X.env)).any (·.1)=false:=by rfl) :
  PE X (.Call (.Attribute o name apos) (e :: es) [] cpos) (tBMT r to t):=by
 intro pins s σ H Q I h
 refine K4 hbase hfew hline rfl (thn (ho pins s σ H _ I h) λv s1 ⟨x,H1,I1,r1,ty,q1⟩ =>?_)
 obtain ⟨p,xs,rfl,hp⟩:=ty
 cases (show v=E2 p from r1)
 obtain ⟨_,its,_,ob,e1,⟨c1,d1⟩,n,s1'⟩:=(show ba X.prog X.w H1 s1.heap p (.tup xs) from I1.hok p _ hp)
 refine ⟨"tuple",id,PySem.F.plainAttrs_tuple,slot,hty,⟨ob,e1,c1⟩,λa e=>by cases e;exact ⟨ob,e1,d1⟩,?_⟩
 have hA:=ha cpos pins s1 σ H1 _ I1 q1
 rw[hs] at hA ⊢
 refine KZ (by show (false || (Jn cpos (FT es X.env)).any (·.1))=false;rw[hplain] <;> rfl) (Lu ?_)
 exact thn hA λus s2 ⟨vs,H2,I2,r2,q2⟩=>hm pins s2 σ H2 (.ref p) vs _ us Q I2 rfl r2 q2
theorem oV {A:FN}{s:EG}{k:Int}{t:Tok}{its:List EB}{ns:List Int}(hi:Hj its ns):∀y,y∈its.toArray->Ls A s y (.int k t) (isInt k y):=λy hy =>
 (eq_isInt k t hi y (by simpa using hy)).at _ _
theorem oW:∀{ns:List Int} {xs:List EB} {prog:EV} {w:Fm},Hj xs ns->ItemsAre (intKind prog w) ns xs
 | _,_,_,_,.nil =>.nil
 | _,_,_,_,.cons n t r =>.cons (Kv _ _ _ _) (oW r)
theorem Inv.tkA {pins:List (Addr×Obj)}{σ:St}{H:Hp}{s:EG}(I:Inv X pins σ H s){b:Addr}{ns:List Int}(h:SqT X.K H b (ns.map V.int))(prog:EV)(w:Fm):IsTupleKey (intKind prog w) s.heap ns b:=by
 obtain ⟨its,r,⟨o,e,c,n,d⟩,_⟩:=I.tuple h
 exact ⟨o,_,n,e,c,d,oW (by simpa using intsAre_of r)⟩
theorem Inv.eqT {pins:List (Addr×Obj)}{σ:St}{H:Hp}{s:EG}(I:Inv X pins σ H s){A:FN}(hu:A.units<cLine){a b:Addr}{ns ms:List Int}(h1:SqT X.K H a (ns.map V.int))(h2:SqT X.K H b (ms.map V.int)):Ls A s (.ref a) (.ref b) (decide (ns=ms)) :=
 λprog w E Q q=>Mb hu (I.tkA h1 prog w) (I.tkA h2 prog w) q
theorem m8:∀{ps:List (Addr×List Int)} {us:List EB},Vals (ps.map λx=>V.ref x.1) us->us=ps.map λx=>E2 x.1
 | [],_,r=>by cases r;rfl
 | p :: ps,_,r=>by
  cases r with
  | cons h t=>rw[EZ, <- m8 t,show _=E2 p.1 from h]
noncomputable def ql (ts:List (Addr×List Int))(m:List Int):EB->Bool:=λv=>decide (∃t∈ts,v = .ref t.1/\t.2=m)
theorem oX {pins:List (Addr×Obj)}{σ:St}{H:Hp}{s:EG}(I:Inv X pins σ H s){ts:List (Addr×List Int)}(ht:∀t∈ts,SqT X.K H t.1 (t.2.map V.int)){m:List Int}{t:Addr×List Int}(hm:t∈ts):ql ts m (.ref t.1)=decide (t.2=m):=by
 unfold ql
 by_cases e:t.2=m
 ·rw[decide_eq_true e,decide_eq_true ⟨t,hm,rfl,e⟩]
 ·rw[decide_eq_false e,decide_eq_false]
  rintro ⟨t',m',e1,e2⟩
  injection e1 with e1
  have:=I.ic (ht t hm) (by rw[e1];exact ht t' m')
  have inj:Function.Injective V.int:=λa b h=>by injection h
  have:t.2=t'.2:=(List.map_inj_right (λx y h=>inj h)).mp this
  exact e (this.trans e2)
theorem m9 {pins:List (Addr×Obj)}{σ:St}{H:Hp}{s:EG}(I:Inv X pins σ H s){ts:List (Addr×List Int)}(ht:∀t∈ts,SqT X.K H t.1 (t.2.map V.int)){m:List Int}:∀us:List (Addr×List Int),(∀t∈us,t∈ts)->(us.map λt=>E2 t.1).countP (ql ts m)=(us.map (·.2)).count m
 | [],_=>rfl
 | u :: us,h=>by
  rw[EZ,EZ,List.countP_cons,JW,m9 I ht us (λt hm=>h t (E8 _ hm)),oX I ht (h u E7)]
  by_cases e:u.2=m
  ·rw[decide_eq_true e,e];simp
  ·rw[decide_eq_false e];simp[e]
theorem uk (hu:X.A.units+8<cLine):MtR X "tuple.count" (λx vs H Q=>∃(p b:Addr) (ts:List (Addr×List Int)) (m:List Int),x = .ref p/\vs=[.ref b]/\H p=some (.tup (ts.map λt =>.ref t.1))/\(∀t∈ts,H t.1=some (.tup (t.2.map V.int)))/\H b=some (.tup (m.map V.int))/\Q (.int ((ts.map (·.2)).count m:Nat)) H):=by
 intro pins s σ H x vs v us Q I rx rv h
 obtain ⟨p,b,ts,m,rfl,rfl,hp,ht,hb,q⟩:=h
 cases rx
 obtain ⟨u,rfl,ru⟩:=vals1 rv
 cases (show u=E2 b from ru)
 have ht':∀t∈ts,SqT X.K H t.1 (t.2.map V.int):=λt hm=>SqT.of (ht t hm)
 obtain ⟨z,its,r,ob,e1,⟨c1,d1⟩,n,s1⟩:=(show ba X.prog X.w H s.heap p (.tup _) from I.hok p _ hp)
 have ei:=m8 r
 obtain ⟨cls,dd,data,sl⟩:=ob
 simp only at c1 s1
 subst c1 s1
 refine JP Kp ⟨_,e1,rfl⟩ PySem.F.entry_tuple_count (PySem.F.args_tuple_count_2 _ _) (SeqAt.tuple_countAt p its.toArray n dd sl (.ref b) (ql ts m)) ⟨e1,λy hy =>?_,?_⟩
 ·have hy':y∈its:=by simpa using hy
  rw[ei] at hy'
  obtain ⟨t,hm,rfl⟩:=E9.mp hy'
  rw[oX I ht' hm]
  exact I.eqT (by show X.A.units+1<cLine;lia) (ht' t hm) (SqT.of hb)
 ·rw[show its.toArray.toList=its from rfl,ei,m9 I ht' ts (λt h=>h)]
  exact ⟨.int _,H,I.tok _,⟨_,rfl⟩,q⟩
theorem eA:∀{its:List EB} {ns:List Int},Hj its ns->∃xs:List (Int×Tok),its=xs.map (λp=>GO p.1 p.2)/\xs.map (·.1)=ns
 | _,_,.nil=>⟨[],rfl,rfl⟩
 | _,_,.cons n t r=>by
  obtain ⟨xs,e1,e2⟩:=eA r
  exact ⟨(n,t) :: xs,by rw[EZ, <- e1],by rw[EZ,e2]⟩
theorem zd (hh:X.A.handled=none):bD X (.builtin "sum") (λxs H Q=>∃(p:Addr) (ns:List Int),xs=[.ref p]/\H p=some (.lst (ns.map V.int))/\Q (.int ns.sum) H):=by
 intro pins s σ H xs us Q I r h
 obtain ⟨p,ns,rfl,hp,q⟩:=h
 obtain ⟨u,rfl,ru⟩:=vals1 r
 cases (show u=E2 p from ru)
 obtain ⟨z,its,n,r,e1⟩:=(show ba X.prog X.w H s.heap p (.lst _) from I.hok p _ hp)
 obtain ⟨zs,e2,e3⟩:=eA (intsAre_of r)
 have ei:its.toArray=Hd zs.toArray:=by rw[e2];simp[Hd]
 refine sum_intListG hh (xs:=zs.toArray) ⟨_,e1,rfl,n,by rw[ei]⟩ λh' tk t' k =>?_
 rw[preSum_eq,Fv (by simp),e3]
 exact ⟨.int _,H,I.kept k,⟨_,rfl⟩,q⟩
end
end L2
namespace HT
open PySem PySem.Spec PyProof.Rows
section
variable  {prog:EV}{w:Fm}{A:FN}{E:EB->EG->Prop}{s:EG}
theorem iP {t sl:Addr}{items:Array EB}{vl vu:EB}{lo hi:Option Int}{Q:EB->EG->Prop}(ht:IsTup s.heap t items)(hs:s.heap.IsSliceOf sl vl vu .none)(pl:IsPart vl lo)(pu:IsPart vu hi)
  (hw:sIx items.size 0 lo=0/\sIx items.size items.size hi=items.size) (h:Q (.ref t) s):E4 (Fq prog w) A (getItem (.ref t) (.ref sl)) Q E s:=by
 obtain ⟨os,hos,hcs,hds⟩:=id hs
 have hTs:s.TypeIs (.ref sl) "slice" :=⟨os,hos,hcs⟩
 unfold getItem
 try with_reducible refine F0 ?_
 first | refine Ew (EC ?_) | skip
 refine Ew (Mx ht.typeIs (by decide) ?_)
 refine Ew (F7 (name:=Str.ofString "__getitem__") ht.typeIs FU
  (FX FU ht.typeIs entry_tuple_getitem ?_ (L8 _ _)))
 show E4 _ _ (Builtin.Tuple.tupleItemsOf (.ref t) >>= _) _ _ s
 refine Ew (tupleItemsOf_ ht ?_)
 refine Ew (HR hTs ?_)
 rw[if_pos (by decide)]
 refine Ew (fk hs pl pu ?_)
 show E4 _ _ (if (((sIx items.size 0 lo:Nat):Int) == 0 && (1:Int) == 1 && (sIx items.size items.size hi-sIx items.size 0 lo) == items.size)=true then _ else _) _ _ s
 rw[hw.1,hw.2,if_pos (by simp)]
 unfold Builtin.Tuple.tupleIsExact
 refine Ew (Ew (HR ht.typeIs (EC ?_)))
 rw[if_pos (by decide)]
 exact Ew (HC (EC ⟨_,rfl,EC h⟩))
end
end HT
namespace L2
open PySem PySem.Spec PyProof.Rows
section
variable  {X:Cx}
theorem Bc:SlR X (λx lo hi H Q=>∃a xs,x = .ref a/\SqT X.K H a xs/\((HT.sIx xs.length 0 lo=0/\HT.sIx xs.length xs.length hi=xs.length)->Q (.ref a) H) ∧
  (¬ (HT.sIx xs.length 0 lo=0/\HT.sIx xs.length xs.length hi=xs.length)->∀p,H p=none->Q (.ref p) (upd H p (.tup (cS xs lo hi))))):=by
 intro pins s σ H x v vl vu lo hi sl Q I rx hs pl pu h
 obtain ⟨a,xs,rfl,hx,q1,q2⟩:=h
 by_cases hw:HT.sIx xs.length 0 lo=0/\HT.sIx xs.length xs.length hi=xs.length
 ·cases rx
  obtain ⟨its,r,ht,hz⟩:=I.tuple hx
  have hlen:its.toArray.size=xs.length:=by rw[EM];exact r.length.symm
  refine ⟨"tuple",_,FU.lookup,ht.typeIs,?_⟩
  exact HT.iP ht hs pl pu (by rw[hlen];exact hw) ⟨.ref a,H,I,rfl,q1 hw⟩
 ·exact CD pins s σ H _ v vl vu lo hi sl Q I rx hs pl pu ⟨a,xs,rfl,hx,hw,q2 hw⟩
end
section
variable  {prog:EV}{w:Fm}{A:FN}{E:EB->EG->Prop}{s:EG}
end
section
variable  {X:Cx}
end
section
variable  {κ:Type}[DecidableEq κ]
def cB (kvs:List (κ×V))(k:κ):Option V:=(kvs.find? λkv=>decide (kv.1=k)).map (·.2)
def putK (kvs:List (κ×V))(k:κ)(v:V):List (κ×V) :=
 if (kvs.any λkv=>decide (kv.1=k))=true then kvs.map (λkv=>if kv.1=k then (kv.1,v) else kv) else kvs++[(k,v)]
theorem bT {p:κ×V}{r:List (κ×V)}{k:κ}(e:p.1=k):cB (p :: r) k=some p.2:=by simp[cB,ID,e]
theorem bU {p:κ×V}{r:List (κ×V)}{k:κ}(e:¬ p.1=k):cB (p :: r) k=cB r k:=by simp[cB,ID,e]
theorem gF (k:κ):∀kvs:List (κ×V),(kvs.any λkv=>decide (kv.1=k))=(cB kvs k).isSome
 | []=>rfl
 | p :: r=>by
  rw[IG]
  by_cases e:p.1=k
  ·simp only[bT e,decide_eq_true e,Bool.true_or,LX]
  ·rw[bU e,decide_eq_false e,L5];exact gF k r
theorem rY (k j:κ)(y:V):∀kvs:List (κ×V),cB (kvs.map λkv=>if kv.1=k then (kv.1,y) else kv) j=(cB kvs j).map λx=>if j=k then y else x
 | []=>rfl
 | p :: r=>by
  have ih:=rY k j y r
  rw[EZ]
  by_cases h:p.1=k
  ·rw[if_pos h]
   by_cases e:p.1=j
   ·rw[bT (p:=(p.1,y)) e,bT e,Hq,if_pos (e.symm.trans h)]
   ·rw[bU (p:=(p.1,y)) e,bU e,ih]
  ·rw[if_neg h]
   by_cases e:p.1=j
   ·rw[bT (p:=p) e,bT e,Hq,if_neg (λz=>h (e.trans z))]
   ·rw[bU (p:=p) e,bU e,ih]
theorem oY (k j:κ)(y:V):∀kvs:List (κ×V),cB kvs k=none->cB (kvs++[(k,y)]) j=if j=k then some y else cB kvs j
 | [],_=>by
  by_cases e:k=j
  ·rw[if_pos e.symm];exact bT (p:=(k,y)) e
  ·rw[if_neg (λz=>e z.symm)];exact bU (p:=(k,y)) e
 | p :: r,hn=>by
  rw[MH]
  have hk:¬ p.1=k:=λz=>by rw[bT z] at hn;cases hn
  rw[bU hk] at hn
  have ih:=oY k j y r hn
  by_cases e:p.1=j
  ·rw[bT e,bT e,if_neg (λz=>hk (e.trans z))]
  ·rw[bU e,bU e,ih]
theorem rZ (kvs:List (κ×V))(k j:κ)(y:V):cB (putK kvs k y) j=if j=k then some y else cB kvs j:=by
 unfold putK
 by_cases a:(kvs.any λkv=>decide (kv.1=k))=true
 ·rw[if_pos a,rY]
  rw[gF] at a
  by_cases e:j=k
  ·obtain ⟨x,hx⟩:=IX.mp a
   rw[if_pos e,e,hx,Hq,if_pos rfl]
  ·rw[if_neg e]
   cases cB kvs j with
   | none=>rfl
   | some x=>rw[Hq,if_neg e]
 ·rw[if_neg a]
  refine oY k j y kvs ?_
  rw[gF] at a
  cases q:cB kvs k with
  | none=>rfl
  | some x=>rw[q] at a;exact (a rfl).elim
theorem eB (kvs:List (κ×V))(k:κ)(v:V):(putK kvs k v).length<=kvs.length+1:=by
 unfold putK
 split
 ·rw[Ex];lia
 ·rw[EE,Fg,G9];lia
theorem ze {kvs:List (κ×V)}{k:κ}(v:V)(h:cB kvs k=none):putK kvs k v=kvs++[(k,v)]:=by
 unfold putK
 rw[gF,h]
 exact if_neg (by decide)
theorem mz.fz {o:Option V}{u:Option EB}(r:mz o u):o.isSome=u.isSome:=by
 cases o with
 | none=>cases u with
  | none=>rfl
  | some _=>exact (show False from r).elim
 | some _=>cases u with
  | none=>exact (show False from r).elim
  | some _=>rfl
theorem KV.val {kvs:List (κ×V)}{vs:List (κ×EB)}(r:KV kvs vs)(k:κ):mz (cB kvs k) (valueAt vs k):=by
 unfold KV at r
 induction r with
 | nil=>exact True.intro
 | @cons p q ps qs h t ih =>
  obtain ⟨h1,h2⟩:=h
  by_cases e:p.1=k
  ·have e':q.1=k:=h1.symm.trans e
   have b:valueAt (q :: qs) k=some q.2:=by simp[valueAt,ID,e']
   rw[bT e,b];exact h2
  ·have e':¬ q.1=k:=λz=>e (h1.trans z)
   have b:valueAt (q :: qs) k=valueAt qs k:=by simp[valueAt,ID,e']
   rw[bU e,b];exact ih
theorem KV.any {kvs:List (κ×V)}{vs:List (κ×EB)}(r:KV kvs vs)(k:κ):(kvs.any λkv=>decide (kv.1=k))=vs.any λkv=>decide (kv.1=k):=by
 unfold KV at r
 induction r with
 | nil=>rfl
 | cons h t ih=>rw[IG,IG,ih,h.1]
theorem KV.CP {kvs:List (κ×V)}{vs:List (κ×EB)}(r:KV kvs vs)(k:κ){y:V}{u:EB}(ry:RelV y u) :
  KV (kvs.map λkv=>if kv.1=k then (kv.1,y) else kv) (vs.map λkv=>if kv.1=k then (kv.1,u) else kv):=by
 unfold KV at r ⊢
 induction r with
 | nil=>exact .nil
 | @cons p q ps qs h t ih =>
  rw[EZ,EZ]
  refine .cons ?_ ih
  obtain ⟨h1,h2⟩:=h
  by_cases e:p.1=k
  ·rw[if_pos e,if_pos (h1.symm.trans e)];exact ⟨h1,ry⟩
  ·rw[if_neg e,if_neg (λz=>e (h1.trans z))];exact ⟨h1,h2⟩
theorem KV.put {kvs:List (κ×V)}{vs:List (κ×EB)}(r:KV kvs vs)(k:κ){y:V}{u:EB}(ry:RelV y u):KV (putK kvs k y) (stored vs k u):=by
 unfold putK stored
 rw[r.any k]
 by_cases e:(vs.any λkv=>decide (kv.1=k))=true
 ·rw[if_pos e,if_pos e];exact r.CP k ry
 ·rw[if_neg e,if_neg e];exact NC r ⟨rfl,ry⟩
theorem KV.length {kvs:List (κ×V)}{vs:List (κ×EB)}(r:KV kvs vs):kvs.length=vs.length:=Kw r
end
theorem oZ {P:EV}{w:Fm}{k:Key}{u:EB}(r:RelV (kV k) u):(bJ P w).is k u=true:=by
 cases k with
 | inl i=>obtain ⟨t,e⟩:=(show ∃t,u=GO i t from r);subst e;exact rh P w i t
 | inr x=>obtain ⟨t,e⟩:=(show ∃t,u=Value.str x t from r);subst e;exact rj P w x t
theorem o7 {P:EV}{w:Fm}:∀{ks:List Key} {us:List EB},Vals (ks.map kV) us->ItemsAre (bJ P w) ks us
 | [],_,r=>by rw[Jx] at r;cases r;exact .nil
 | k :: ks,_,r=>by
  rw[EZ] at r
  cases r with
  | cons h t=>exact .cons (oZ h) (o7 t)
abbrev KT (H:Hp):List (List Key×V)->List (List Key×Addr×EB)->Prop:=Paired λp q=>p.1=q.1/\H q.2.1=some (.tup (p.1.map kV))/\RelV p.2 q.2.2
theorem KT.val {H:Hp}{kvs:List (List Key×V)}{xs:List (List Key×Addr×EB)}(r:KT H kvs xs)(k:List Key):mz (cB kvs k) ((atKey xs k).map (·.2)):=by
 induction r with
 | nil=>exact True.intro
 | @cons p q ps qs h t ih =>
  obtain ⟨h1,_,h2⟩:=h
  by_cases e:p.1=k
  ·have e':q.1=k:=h1.symm.trans e
   have b:atKey (q :: qs) k=some q.2:=by simp[atKey,ID,e']
   rw[bT e,b];exact h2
  ·have e':¬ q.1=k:=λz=>e (h1.trans z)
   have b:atKey (q :: qs) k=atKey qs k:=by simp[atKey,ID,e']
   rw[bU e,b];exact ih
theorem KT.CP {H:Hp}{kvs:List (List Key×V)}{xs:List (List Key×Addr×EB)}(r:KT H kvs xs)(k:List Key){y:V}{u:EB}(ry:RelV y u) :
  KT H (kvs.map λkv=>if kv.1=k then (kv.1,y) else kv) (xs.map (putAt k u)):=by
 induction r with
 | nil=>exact .nil
 | @cons p q ps qs h t ih =>
  rw[EZ,EZ]
  refine .cons ?_ ih
  obtain ⟨h1,h2,h3⟩:=h
  unfold putAt
  by_cases e:p.1=k
  ·rw[if_pos e,if_pos (h1.symm.trans e)];exact ⟨h1,h2,ry⟩
  ·rw[if_neg e,if_neg (λz=>e (h1.trans z))];exact ⟨h1,h2,h3⟩
theorem KT.put {H:Hp}{kvs:List (List Key×V)}{xs:List (List Key×Addr×EB)}(r:KT H kvs xs)(k:List Key){b:Addr}{y:V}{u:EB}(hb:H b=some (.tup (k.map kV)))(ry:RelV y u) :
  KT H (putK kvs k y) (storedH xs k b u):=by
 have e:(kvs.any λkv=>decide (kv.1=k))=(atKey xs k).isSome:=by
  rw[gF,(r.val k).fz,Kq]
 unfold putK storedH
 rw[e]
 by_cases q:(atKey xs k).isSome=true
 ·rw[if_pos q,if_pos q];exact r.CP k ry
 ·rw[if_neg q,if_neg q];exact NC r ⟨rfl,hb,ry⟩
theorem KT.keeps {H H':Hp}{kvs:List (List Key×V)}{xs:List (List Key×Addr×EB)}(r:KT H kvs xs)(ht:∀b ys,H b=some (.tup ys)->H' b=some (.tup ys)):KT H' kvs xs :=
 Paired.Cq r λ_ _ z=>⟨z.1,ht _ _ z.2.1,z.2.2⟩
section
variable  {P:EV}{w:Fm}{H:Hp}{h:Heap}{a:Addr}
theorem B8 {u:HO}(ok:HOk P w H h)(e:Rd H a u):ba P w H h a u:=e.ok ok
theorem r6 {kvs:List (Key×V)}(ok:HOk P w H h)(e:Rd H a (.dK kvs)):kvs.length<=ES/\(a == sysModules)=false/\∃vs,KV kvs vs/\h.DictOf (bJ P w) a vs :=
 show ba P w H h a (.dK kvs) from B8 ok e
theorem B9 {kvs:List (Key×V)}(ok:HOk P w H h)(e:H a=some (.dK kvs)):kvs.length<=ES/\(a == sysModules)=false/\∃vs,KV kvs vs/\h.DictOf (bJ P w) a vs:=r6 ok (.inl e)
theorem ng {ks:List Key}(ok:HOk P w H h)(e:H a=some (.tup (ks.map kV))):(tupleKind (bJ P w)).is h ks a:=by
 obtain ⟨_,its,r,o,h1,h2,n,h3⟩:=(show ba P w H h a (.tup (ks.map kV)) from ok a _ e)
 exact ⟨o,its.toArray,n,h1,h2.1,h3,by simpa using o7 r⟩
theorem r9 {kvs:List (List Key×V)}(ok:HOk P w H h)(e:Rd H a (.dT kvs)):kvs.length<=ES/\(a == sysModules)=false ∧
  ∃xs,KT H kvs xs/\h.DictOfH (tupleKind (bJ P w)) a xs:=by
 obtain ⟨z,y,xs,r,o,es,ep,h1,h2,h3,h4,h5⟩:=(show ba P w H h a (.dT kvs) from B8 ok e)
 refine ⟨z,y,xs,r,o,es,ep,h1,h2,h3,h4,λx hx =>?_,h5⟩
 have all:∀{l:List (List Key×V)} {m:List (List Key×Addr×EB)},KT H l m->∀x∈m,(tupleKind (bJ P w)).is h x.1 x.2.1:=by
  intro l m q
  induction q with
  | nil=>intro x hx;exact nomatch hx
  | @cons p q ps qs hq t ih =>
   intro x hx
   rcases EW.mp hx with e | hx
   ·subst e
    exact ng ok (by rw[<- hq.1];exact hq.2.1)
   ·exact ih x hx
 exact all r x hx
theorem DS {kvs:List (List Key×V)}(ok:HOk P w H h)(e:H a=some (.dT kvs)):kvs.length<=ES/\(a == sysModules)=false ∧
  ∃xs,KT H kvs xs/\h.DictOfH (tupleKind (bJ P w)) a xs:=r9 ok (.inl e)
end
def i5 (H:Hp)(a:Addr)(y:V)(r:Option V):Prop :=
 (∃kvs k,Rd H a (.dK kvs)/\y=kV k/\r=cB kvs k)\/∃kvs k b,Rd H a (.dT kvs)/\y = .ref b/\H b=some (.tup (k.map kV))/\r=cB kvs k
def oo (H:Hp)(a:Addr)(y v:V)(H':Hp):Prop :=
 (∃kvs k,H a=some (.dK kvs)/\y=kV k/\kvs.length<ES/\H'=upd H a (.dK (putK kvs k v))) ∨
 ∃kvs k b,H a=some (.dT kvs)/\y = .ref b/\H b=some (.tup (k.map kV))/\kvs.length<ES/\H'=upd H a (.dT (putK kvs k v))
theorem i5.k {H:Hp}{a:Addr}{kvs:List (Key×V)}{k:Key}(e:H a=some (.dK kvs)):i5 H a (kV k) (cB kvs k) :=.inl ⟨kvs,k,.inl e,rfl,rfl⟩
theorem oo.k {H:Hp}{a:Addr}{kvs:List (Key×V)}{k:Key}{v:V}(e:H a=some (.dK kvs))(hl:kvs.length<ES):oo H a (kV k) v (upd H a (.dK (putK kvs k v))) :=.inl ⟨kvs,k,e,rfl,hl,rfl⟩
section
variable  {X:Cx}{pins:List (Addr×Obj)}{σ:St}{H:Hp}{s:EG}{a:Addr}{y v:V}{u r:EB}{o:Option V}{A:FN}{E:EB->EG->Prop}
theorem Inv.big (I:Inv X pins σ H s):sysModules<s.heap.objs.size:=by
 have h:Fx<s.heap.objs.size:=(I.mod.glob.keeps I.bk).lt
 exact Nat.lt_trans (by decide) h
theorem xt {Q:EB->EG->Prop}(hu:A.units+1<cLine)(I:Inv X pins σ H s)(g:i5 H a y (some v))(ry:RelV y u)(h:∀w' s',Inv X pins σ H s'->RelV v w'->Q w' s') :
  E4 (Fq X.prog X.w) A (getItem (.ref a) u) Q E s:=by
 rcases g with ⟨kvs,k,e,ey,l⟩ | ⟨kvs,k,b,e,ey,eb,l⟩
 ·subst ey
  obtain ⟨z,hd,vs,rel,dd⟩:=r6 I.hok e
  obtain ⟨w',hw,rw'⟩:=mz.some_of (v:=v) (o:=valueAt vs k) (by rw[l];exact rel.val k)
  exact wpAny_getItem_of (oZ ry) dd.mapOf hw (h w' _ (I.tok _) rw')
 ·subst ey
  cases (show u=E2 b from ry)
  obtain ⟨z,hd,xs,rel,dd⟩:=r9 I.hok e
  obtain ⟨w',hw,rw'⟩:=mz.some_of (v:=v) (o:=(atKey xs k).map (·.2)) (by rw[l];exact rel.val k)
  obtain ⟨p,hp,hp2⟩:=Hf.mp hw
  refine wpAny_getItem_heap (Jk hu) (ng I.hok eb) dd hp ?_
  rw[hp2]
  exact h w' _ (I.tok _) rw'
theorem d_in {Q:EB->EG->Prop}(hu:A.units+1<cLine)(I:Inv X pins σ H s)(g:i5 H a y o)(ry:RelV y u)(h:∀s',Inv X pins σ H s'->Q (.bool o.isSome) s') :
  E4 (Fq X.prog X.w) A (Gw .In u (.ref a)) Q E s:=by
 rcases g with ⟨kvs,k,e,ey,l⟩ | ⟨kvs,k,b,e,ey,eb,l⟩
 ·subst ey
  obtain ⟨z,hd,vs,rel,dd⟩:=r6 I.hok e
  refine wpAny_in_of (oZ ry) hd dd.mapOf ?_
  rw[<- (rel.val k).fz, <- l]
  exact h _ (I.tok _)
 ·subst ey
  cases (show u=E2 b from ry)
  obtain ⟨z,hd,xs,rel,dd⟩:=r9 I.hok e
  refine wpAny_in_heap (Jk hu) (ng I.hok eb) hd dd ?_
  have q:=(rel.val k).fz
  rw[Kq] at q
  rw[<- q, <- l]
  exact h _ (I.tok _)
theorem Bd {Q:EB->EG->Prop}(hu:A.units+1<cLine)(I:Inv X pins σ H s)(g:i5 H a y o)(ry:RelV y u)(h:∀s',Inv X pins σ H s'->Q (.bool (!o.isSome)) s') :
  E4 (Fq X.prog X.w) A (Gw .NotIn u (.ref a)) Q E s:=by
 rcases g with ⟨kvs,k,e,ey,l⟩ | ⟨kvs,k,b,e,ey,eb,l⟩
 ·subst ey
  obtain ⟨z,hd,vs,rel,dd⟩:=r6 I.hok e
  refine wpAny_notIn_of (oZ ry) hd dd.mapOf ?_
  rw[<- (rel.val k).fz, <- l]
  exact h _ (I.tok _)
 ·subst ey
  cases (show u=E2 b from ry)
  obtain ⟨z,hd,xs,rel,dd⟩:=r9 I.hok e
  refine wpAny_notIn_heap (Jk hu) (ng I.hok eb) hd dd ?_
  have q:=(rel.val k).fz
  rw[Kq] at q
  rw[<- q, <- l]
  exact h _ (I.tok _)
theorem qm {h':Heap}{t':Nat}{ob:HO}(I:Inv X pins σ H s)(mu:Mut (H a))(hs:Heap.SameBut a s.heap h')(he:∃q,h'.get? a=some q)(new:ba X.prog X.w (upd H a ob) h' a ob) :
  Inv X pins σ (upd H a ob) { s with heap:=h',toks:=t' } :=
 I.write (x:=a) (e:=a) mu (.inl rfl) (λb q hb z=>(hs.2 b hb).trans z) he new
theorem zf {P:EV}{w:Fm}{H':Hp}{h':Heap}{kvs:List (Key×V)}{vs:List (Key×EB)}(z:kvs.length<=ES)(hd:(a == sysModules)=false)(rel:KV kvs vs)(dd:h'.DictOf (bJ P w) a vs) :
  ba P w H' h' a (.dK kvs):=⟨z,hd,vs,rel,dd⟩
theorem xu {H':Hp}{Q:Unit->EG->Prop}(hu:A.units+1<cLine)(I:Inv X pins σ H s)(g:oo H a y v H')(ry:RelV y u)(rv:RelV v r)(h:∀s',Inv X pins σ H' s'->Q () s') :
  E4 (Fq X.prog X.w) A (setItem (.ref a) u r) Q E s:=by
 rcases g with ⟨kvs,k,e,ey,l,eH⟩ | ⟨kvs,k,b,e,ey,eb,l,eH⟩
 ·subst ey eH
  obtain ⟨z,hd,vs,rel,dd⟩:=B9 I.hok e
  have hz:vs.length<=ES:=by rw[<- rel.length];exact z
  have hl:(putK kvs k v).length<=ES:=by have:=eB kvs k v;lia
  refine wpAny_setItem_pairs (hsz:=hz) (oZ ry) dd λh' dd' hs=>h _ ?_
  have he:∃q,h'.get? a=some q:=let ⟨q,_,_,hq,_⟩:=dd';⟨q,hq⟩
  exact qm I (by rw[e];exact True.intro) hs he (zf hl hd (rel.put k rv) dd')
 ·subst ey eH
  cases (show u=E2 b from ry)
  obtain ⟨z,hd,xs,rel,dd⟩:=DS I.hok e
  have hz:xs.length<=ES:=by rw[<- Kw rel];exact z
  have hl:(putK kvs k v).length<=ES:=by have:=eB kvs k v;lia
  refine wpAny_setItem_heap (hsz:=hz) (Jk hu) (ng I.hok eb) dd λh' dd' hs=>h _ ?_
  obtain ⟨q,es,ep,hq,h2,h3,h4,_,h5⟩:=dd'
  refine qm I (by rw[e];exact True.intro) hs ⟨q,hq⟩ ⟨hl,hd,_,(rel.put k eb rv).keeps λc ys ec =>?_,q,es,ep,hq,h2,h3,h4,h5⟩
  rw[aH (lC ec e (λz=>nomatch z))]
  exact ec
end
section
variable  {X:Cx}{pins:List (Addr×Obj)}{σ:St}{H:Hp}{s:EG}{a:Addr}{kvs:List (Key×V)}{k:Key}{u:EB}{A:FN}{E:EB->EG->Prop}
end
def DT (i:Expr):Prop:=∀ov iv,subscripted i false ov iv=operate [ov,iv] (getItem ov iv)
theorem Be {prog:EV}{w:Fm}{A:FN}{E:EB->EG->Prop}{s:EG}{env:Env}{value slice:Expr}{pos:Pos}{T id:String}{Q:EB->EG->Prop}
  (hl:typeLookup (.type T) "__getitem__" = pure (some (.builtin id))) (hs:DT slice)
  (h:E4 (Fq prog w) A (eval value env) (λo s₁=>E4 (Fq prog w) A (eval slice env) (λi s₂=>s₂.TypeIs o T/\E4 (Fq prog w) A (getItem o i) Q E s₂) E s₁) E s) :
  E4 (Fq prog w) A (eval (.Subscript value slice pos) env) Q E s:=by
 refine Subscript_ (Hh h (λo s₁ h₁=>Hh h₁ (λi s₂ h₂ =>?_) λ_ _ x=>x) λ_ _ x=>x)
 obtain ⟨hT,h₂⟩:=h₂
 unfold subscriptTail
 refine Ew ?_
 rw[getitemInPython_of_ne hT.not_modules]
 refine Ew (HF hT hl ?_)
 have fin:E4 (Fq prog w) A (subscripted slice false o i) (λr s₃=>E4 (Fq prog w) A (letTemporaryGo value o r >>= λ_=>pure r) Q E s₃) E s₂:=by
  rw[hs o i]
  exact wpAny_operating (Hh h₂ (λr s₃ h₃=>Ew (wpAny_letTemporaryGo (EC h₃))) λ_ _ x=>x)
 first
  | exact EC (Ew fin)
  | exact Ew (EC (Ew fin))
  | exact Ew fin
theorem se {X:Cx}{pins:List (Addr×Obj)}{σ:St}{H:Hp}{s:EG}{a:Addr}{y:V}{o:Option V}(I:Inv X pins σ H s)(g:i5 H a y o):s.TypeIs (.ref a) "dict" := by
 rcases g with ⟨kvs,k,e,_,_⟩ | ⟨kvs,k,b,e,_,_,_⟩
 ·obtain ⟨_,_,vs,_,dd⟩:=r6 I.hok e
  exact dd.typeIs
 ·obtain ⟨_,_,xs,_,dd⟩:=r9 I.hok e
  exact dd.typeIs
def DU (td ty:TE):TE:=λσ H Q=>td σ H λx H1=>ty σ H1 λy H2=>∃a v,x = .ref a/\i5 H2 a y (some v)/\Q v H2
def tDIn (ty td:TE):TE:=λσ H Q=>ty σ H λy H1=>td σ H1 λx H2=>∃a o,x = .ref a/\i5 H2 a y o/\Q (.bl o.isSome) H2
def Bf (ty td:TE):TE:=λσ H Q=>ty σ H λy H1=>td σ H1 λx H2=>∃a o,x = .ref a/\i5 H2 a y o/\Q (.bl (!o.isSome)) H2
def DV (td ty tv:TE):TS:=λD σ H=>tv σ H λv H1=>td σ H1 λx H2=>ty σ H2 λy H3=>∃a H4,x = .ref a/\oo H3 a y v H4/\D.nx σ H4
section
variable  {X:Cx}{o i e value:Expr}{pos pos' tpos:Pos}{td ty tv:TE}
theorem eC (hu:X.A.units+1<cLine)(ho:PE X o td)(hi:PE X i ty)(hs:DT i):PE X (.Subscript o i pos) (DU td ty):=by
 intro pins s σ H Q I h
 refine Be PySem.F.slot_dict_getitem.lookup hs (thn (ho pins s σ H _ I h) λu s1 ⟨x,H1,I1,rx,q1⟩=>thn (hi pins s1 σ H1 _ I1 q1) λiv s2 ⟨y,H2,I2,ry,a,v,ex,g,q2⟩ =>?_)
 subst ex
 obtain rfl:u=E2 a:=rx
 exact ⟨se I2 g,xt hu I2 g ry λw' s3 I3 rw'=>⟨v,H2,I3,rw',q2⟩⟩
theorem gG (hu:X.A.units+1<cLine)(hi:PE X i ty)(ho:PE X o td):PC X .In i o (tDIn ty td):=by
 intro pins s σ H Q I h
 refine thn (hi pins s σ H _ I h) λiv s1 ⟨y,H1,I1,ry,q1⟩=>thn (ho pins s1 σ H1 _ I1 q1) λu s2 ⟨x,H2,I2,rx,a,ov,ex,g,q2⟩ =>?_
 subst ex
 obtain rfl:u=E2 a:=rx
 exact d_in hu I2 g ry λs3 I3=>⟨.bl ov.isSome,H2,I3,rfl,q2⟩
theorem kE (hu:X.A.units+1<cLine)(hi:PE X i ty)(ho:PE X o td):PC X .NotIn i o (Bf ty td):=by
 intro pins s σ H Q I h
 refine thn (hi pins s σ H _ I h) λiv s1 ⟨y,H1,I1,ry,q1⟩=>thn (ho pins s1 σ H1 _ I1 q1) λu s2 ⟨x,H2,I2,rx,a,ov,ex,g,q2⟩ =>?_
 subst ex
 obtain rfl:u=E2 a:=rx
 exact Bd hu I2 g ry λs3 I3=>⟨.bl (!ov.isSome),H2,I3,rfl,q2⟩
theorem iA (hu:X.A.units+1<cLine)(ho:PE X o td)(hi:PE X i ty)(hv:PE X value tv)(hs:swapsWith value (some (.Subscript o i pos')) pos.line X.env=pure false) :
  PS X (.Assign [.Subscript o i pos'] value pos) (DV td ty tv):=by
 intro pins s σ H D I h
 refine wpAny_Assign_Subscript (thn (hv pins s σ H _ I h) λr s1 ⟨v,H1,I1,rv,q1⟩=>thn (ho pins s1 σ H1 _ I1 q1) λu s2 ⟨x,H2,I2,rx,q2⟩=>thn (hi pins s2 σ H2 _ I2 q2) λiv s3 ⟨y,H3,I3,ry,a,H4,ex,g,q3⟩ =>?_) hs
 subst ex
 obtain rfl:u=E2 a:=rx
 exact xu hu I3 g ry rv λs4 I4=>⟨σ,H4,I4,q3⟩
end
theorem sf {P:EV}{w:Fm}{H:Hp}(h:Heap)(hb:sysModules<h.objs.size):ba P w H (h.push { cls :=.type "dict",data :=.dict #[] }) h.objs.size (.dK []) :=
 ⟨FE _,beq_eq_false_iff_ne.mpr (Gn (EY hb)),[],.nil,Heap.DictOf.new h⟩
def CQ:TE:=λ_ H Q=>∀p,H p=none->Q (.ref p) (upd H p (.dK []))
section
variable  {X:Cx}{pos:Pos}
theorem sg:PE X (.Dict [] [] pos) CQ:=λpins s σ H Q I h =>
 wpAny_Dict_empty ⟨.ref s.heap.objs.size,_,I.laid (a:=s.heap.objs.size) (o :=.dK []) (t':=s.toks) (λ_ _ q=>Ey _ q) (EI _) (sf s.heap I.big),rfl,h _ (I.hok.fresh (EI _))⟩
end
def uo:List (TE×TE)->St->Hp->(List (V×V)->Hp->Prop)->Prop
 | [],_,H,Q=>Q [] H
 | (tk,tv) :: r,σ,H,Q=>tk σ H λx H1=>tv σ H1 λy H2=>uo r σ H2 λps H3=>Q ((x,y) :: ps) H3
abbrev VV:List (V×V)->List (EB×EB)->Prop:=Paired λp q=>RelV p.1 q.1/\RelV p.2 q.2
def PPs (X:Cx)(pos:Pos)(keys:List (Option Expr))(values:List Expr)(trs:List (TE×TE)):Prop :=
 ∀(pins:List (Addr×Obj)) (s:EG) (σ:St) (H:Hp) (Q:List (V×V)->Hp->Prop),Inv X pins σ H s->uo trs σ H Q →
  E4 (Fq X.prog X.w) X.A (evalPairs (pairTrees keys values X.env pos)) (λvs s'=>∃ps H',Inv X pins σ H' s'/\VV ps vs/\Q ps H') X.xe s
theorem Bg {X:Cx}{pos:Pos}:PPs X pos [] [] []:=λpins s σ H Q I h=>pairTrees_nil_walk ⟨[],H,I,.nil,h⟩
theorem zg {X:Cx}{pos:Pos}{k v:Expr}{ks:List (Option Expr)}{vs:List Expr}{tk tv:TE}{trs:List (TE×TE)}(hk:PE X k tk)(hv:PE X v tv)(hr:PPs X pos ks vs trs) :
  PPs X pos (some k :: ks) (v :: vs) ((tk,tv) :: trs):=λpins s σ H Q I h =>
 pairTrees_cons_walk (thn (hk pins s σ H _ I h) λu s1 ⟨x,H1,I1,rx,q1⟩=>thn (hv pins s1 σ H1 _ I1 q1) λw2 s2 ⟨y,H2,I2,ry,q2⟩ =>
  thn (hr pins s2 σ H2 _ I2 q2) λws s3 ⟨ps,H3,I3,rel,q3⟩=>⟨(x,y) :: ps,H3,I3,.cons ⟨rx,ry⟩ rel,q3⟩)
def gH (kvs more:List (Key×V)):List (Key×V):=more.foldl (λacc kv=>putK acc kv.1 kv.2) kvs
theorem KV.merge:∀{more:List (Key×V)} {rs:List (Key×EB)} {kvs:List (Key×V)} {vs:List (Key×EB)},KV more rs->KV kvs vs->KV (gH kvs more) (merged vs rs):=by
 intro more rs kvs vs r
 unfold KV at r
 induction r generalizing kvs vs with
 | nil=>intro q;exact q
 | @cons p q ps qs h t ih =>
  intro r0
  have e:KV (putK kvs p.1 p.2) (stored vs q.1 q.2):=by
   have:=r0.put p.1 h.2
   rw[<- h.1];exact this
  exact ih e
theorem iX:∀(more kvs:List (Key×V)),(gH kvs more).length<=kvs.length+more.length
 | [],kvs=>by show kvs.length<=kvs.length+0;lia
 | p :: r,kvs=>by
  have h1:=iX r (putK kvs p.1 p.2)
  have h2:=eB kvs p.1 p.2
  show (gH (putK kvs p.1 p.2) r).length<=_
  rw[Fg];lia
theorem nh {P:EV}{w:Fm}:∀{kvs:List (Key×V)} {ws:List (EB×EB)},VV (kvs.map λkv=>(kV kv.1,kv.2)) ws->∃rs,Carries (bJ P w) ws rs/\KV kvs rs
 | [],_,r=>by rw[Jx] at r;cases r;exact ⟨[],True.intro,.nil⟩
 | p :: kvs,_,r=>by
  rw[EZ] at r
  cases r with
  | @cons a b as bs h t =>
   obtain ⟨rs,c,q⟩:=nh (P:=P) (w:=w) t
   obtain ⟨b1,b2⟩:=b
   exact ⟨(p.1,b2) :: rs,⟨oZ h.1,rfl,c⟩,.cons ⟨rfl,h.2⟩ q⟩
def DW (trs:List (TE×TE)):TE:=λσ H Q=>∀p,H p=none->uo trs σ (upd H p (.dK [])) λps H2=>H2 p=some (.dK [])/\∃kvs:List (Key×V),ps=kvs.map (λkv=>(kV kv.1,kv.2))/\kvs.length<=15/\Q (.ref p) (upd H2 p (.dK (gH [] kvs)))
theorem Bh {X:Cx}{pos:Pos}{keys:List (Option Expr)}{values:List Expr}{trs:List (TE×TE)}(h:PPs X pos keys values trs)(hall:keys.all (·.isSome)=true)(hl:keys.length=values.length)(h0:keys≠[])
  (h15:keys.length<=15):PE X (.Dict keys values pos) (DW trs):=by
 intro pins s σ H Q I q
 have hn:=I.hok.fresh (EI s.heap.objs.size)
 have I1:=I.laid (a:=s.heap.objs.size) (o :=.dK []) (h':=s.heap.push { cls :=.type "dict",data :=.dict #[] }) (t':=s.toks) (λ_ _ q=>Ey _ q) (EI _) (sf s.heap I.big)
 refine wpAny_Dict_walk (knd:=bJ X.prog X.w) hall hl h0 h15 (thn (h pins _ σ _ _ I1 (q _ hn)) λws s2 ⟨ps,H2,I2,rel,e,kvs,ep,lk,q2⟩ =>?_)
 subst ep
 obtain ⟨rs,c,rk⟩:=nh (P:=X.prog) (w:=X.w) rel
 obtain ⟨z,hd,vs0,r0,dd⟩:=B9 I2.hok e
 cases r0
 refine ⟨rs,c,dd,λh' dd' hs=>⟨.ref s.heap.objs.size,_,?_,rfl,q2⟩⟩
 have hz:(gH [] kvs).length<=ES:=by
  have h1:=iX kvs []
  rw[G9] at h1
  rw[HW];lia
 have he:∃q,h'.get? s.heap.objs.size=some q:=let ⟨q,_,_,hq,_⟩:=dd';⟨q,hq⟩
 exact qm I2 (by rw[e];exact True.intro) hs he (zf hz hd (rk.merge .nil) dd')
section
variable  {X:Cx}{pins:List (Addr×Obj)}{σ:St}{H:Hp}{s:EG}{a:Addr}{y d:V}{u r:EB}{o:Option V}{A:FN}{E:EB->EG->Prop}
end
section
variable  {X:Cx}{o e f:Expr}{apos cpos:Pos}{td ty tx:TE}
end
section
variable  {X:Cx}{pins:List (Addr×Obj)}{σ:St}{H:Hp}{s:EG}{a:Addr}{kvs:List (Key×V)}{A:FN}{E:EB->EG->Prop}
end
section
variable  {X:Cx}{pins:List (Addr×Obj)}{σ:St}{H:Hp}{s:EG}{a:Addr}{y:V}{u:EB}{A:FN}{E:EB->EG->Prop}
end
section
variable  {X:Cx}
end
section
variable  {κ:Type}[DecidableEq κ]
end
end L2
namespace HT
open PySem PySem.Spec PyProof.Rows
section
variable  {prog:EV}{w:Fm}{A:FN}{E:EB->EG->Prop}{s:EG}{l:Addr}{xs:Array (Int×Tok)}
theorem o8 {items:Array EB}{Q:EB->EG->Prop}(hl:s.heap.IsTuple l items)
  (h:∀s₂:EG,s₂={ s with heap:=s.heap.push { cls :=.type "tuple_iterator",data :=.fields #[.ref l,.int 0 0] } } →
   (s₂.heap.IsTupleIter s.heap.objs.size l 0/\s₂.heap.IsTuple l items)->(∀b∈[s.heap.objs.size,l],b<s₂.heap.objs.size)->l≠s.heap.objs.size->Q (.ref s.heap.objs.size) s₂) :
  E4 (Fq prog w) A (pyIter (.ref l)) Q E s:=by
 have hlt:l<s.heap.objs.size:=by obtain ⟨_,e,_⟩:=hl;exact EN e
 refine GS hl (h _ rfl ⟨⟨_,EK _ rfl,rfl,rfl⟩,?_⟩ (λb hb =>?_) (EY hlt))
 ·obtain ⟨o,e,c,d⟩:=hl
  exact ⟨o,Ey _ e,c,d⟩
 show b<(s.heap.push _).objs.size
 rw[FK]
 rcases EW.mp hb with rfl | hb
 ·exact F8 _
 ·rcases EW.mp hb with rfl | hb
  ·exact FV hlt
  ·cases hb
theorem pd {h':Heap}(hk:∀b o,b∉[s.heap.objs.size]->(s.heap.push { cls :=.type "tuple_iterator",data :=.fields #[.ref l,.int 0 0] }).get? b=some o->h'.get? b=some o) :
  ∀b o,s.heap.get? b=some o->h'.get? b=some o:=λb o e=>by
 refine hk b o (λhm =>?_) (Ey _ e)
 rcases EW.mp hm with e1 | hm
 ·exact absurd (e1 ▸ EN e) (Fl _)
 ·cases hm
theorem Bi {Q:EB->EG->Prop}(hh:A.handled=none)(hl:s.heap.IsTuple l (Hd xs))(hne:0<xs.size)
  (h:∀v h' tk,(Hd xs)[argBest (λi j=>decide (numAt xs i>numAt xs j)) (xs.size-1)]? = some v->(∀b o,s.heap.get? b=some o->h'.get? b=some o)->Q v { s with heap:=h',toks:=tk }) :
  E4 (Fq prog w) A (call (.builtin "max") [.ref l]) Q E s:=by
 refine call_max_walk (o8 hl λs₂ e st hfp hlI =>?_)
 subst e
 refine ⟨_,_,_,_,_,_,_,rfl,KA (A:=A.in1) hh _ l hlI (Hd xs),st,hfp,by simpa [Hd] using hne,CmpOf.ints_gt (numAt xs) (λ_ _=>KN),λv h' tk hP hk =>?_⟩
 exact h v h' tk (by simpa [Hd] using hP) (pd hk)
theorem Bj {Q:EB->EG->Prop}(hh:A.handled=none)(hl:s.heap.IsTuple l (Hd xs))(hne:0<xs.size)
  (h:∀v h' tk,(Hd xs)[argBest (λi j=>decide (numAt xs i<numAt xs j)) (xs.size-1)]? = some v->(∀b o,s.heap.get? b=some o->h'.get? b=some o)->Q v { s with heap:=h',toks:=tk }) :
  E4 (Fq prog w) A (call (.builtin "min") [.ref l]) Q E s:=by
 refine call_min_walk (o8 hl λs₂ e st hfp hlI =>?_)
 subst e
 refine ⟨_,_,_,_,_,_,_,rfl,KA (A:=A.in1) hh _ l hlI (Hd xs),st,hfp,by simpa [Hd] using hne,Nt (numAt xs) (λ_ _=>KN),λv h' tk hP hk =>?_⟩
 exact h v h' tk (by simpa [Hd] using hP) (pd hk)
end
end HT
namespace L2
open PySem PyProof.Rows
section
variable  {X:Cx}{K:Ez}
theorem ii2 {i j:Int}{t1 t2:Tok}:Hd #[(i,t1),(j,t2)] = #[GO i t1,GO j t2]:=by simp[Hd]
theorem xv (hc:X.calm=true)(hk:X.K=K:=by rfl):bD X (.builtin "min") (λxs H Q=>∃(p:Addr) (i j:Int),xs=[.ref p]/\SqT K H p [.int i,.int j]/\Q (.int (if j<i then j else i)) H):=by
 subst hk
 intro pins s σ H xs us Q I r h
 obtain ⟨p,i,j,rfl,hq,q⟩:=h
 obtain ⟨u,rfl,ru⟩:=vals1 r
 cases (show u=E2 p from ru)
 obtain ⟨its,rv,ht,_⟩:=I.tuple hq
 obtain ⟨x,y,rfl,⟨t1,rfl⟩,⟨t2,rfl⟩⟩:=vals2 rv
 refine HT.Bj (I.ok.hd hc) (xs := #[(i,t1),(j,t2)]) (by rw[ii2];exact ht) (by simp) λv h' tk hv k =>?_
 have ev:∃t,v = .int (if j<i then j else i) t:=by
  have hb:argBest (λa b=>decide (numAt #[(i,t1),(j,t2)] a<numAt #[(i,t1),(j,t2)] b)) (#[(i,t1),(j,t2)].size-1)=if j<i then 1 else 0:=by
   show (if decide (j<i)=true then 1 else 0)=_
   by_cases h:j<i
   ·rw[decide_eq_true h,if_pos h,if_pos rfl]
   ·rw[decide_eq_false h,if_neg h,if_neg EO]
  rw[hb,ii2] at hv
  by_cases h:j<i
  ·rw[if_pos h] at hv ⊢
   exact ⟨t2,(EX (show some (GO j t2)=some v from hv)).symm⟩
  ·rw[if_neg h] at hv ⊢
   exact ⟨t1,(EX (show some (GO i t1)=some v from hv)).symm⟩
 obtain ⟨t,rfl⟩:=ev
 exact ⟨.int _,H,I.kept k,⟨_,rfl⟩,q⟩
theorem xw (hc:X.calm=true)(hk:X.K=K:=by rfl):bD X (.builtin "max") (λxs H Q=>∃(p:Addr) (i j:Int),xs=[.ref p]/\SqT K H p [.int i,.int j]/\Q (.int (if j>i then j else i)) H):=by
 subst hk
 intro pins s σ H xs us Q I r h
 obtain ⟨p,i,j,rfl,hq,q⟩:=h
 obtain ⟨u,rfl,ru⟩:=vals1 r
 cases (show u=E2 p from ru)
 obtain ⟨its,rv,ht,_⟩:=I.tuple hq
 obtain ⟨x,y,rfl,⟨t1,rfl⟩,⟨t2,rfl⟩⟩:=vals2 rv
 refine HT.Bi (I.ok.hd hc) (xs := #[(i,t1),(j,t2)]) (by rw[ii2];exact ht) (by simp) λv h' tk hv k =>?_
 have ev:∃t,v = .int (if j>i then j else i) t:=by
  have hb:argBest (λa b=>decide (numAt #[(i,t1),(j,t2)] a>numAt #[(i,t1),(j,t2)] b)) (#[(i,t1),(j,t2)].size-1)=if j>i then 1 else 0:=by
   show (if decide (j>i)=true then 1 else 0)=_
   by_cases h:j>i
   ·rw[decide_eq_true h,if_pos h,if_pos rfl]
   ·rw[decide_eq_false h,if_neg h,if_neg EO]
  rw[hb,ii2] at hv
  by_cases h:j>i
  ·rw[if_pos h] at hv ⊢
   exact ⟨t2,(EX (show some (GO j t2)=some v from hv)).symm⟩
  ·rw[if_neg h] at hv ⊢
   exact ⟨t1,(EX (show some (GO i t1)=some v from hv)).symm⟩
 obtain ⟨t,rfl⟩:=ev
 exact ⟨.int _,H,I.kept k,⟨_,rfl⟩,q⟩
end
section
variable  {X:Cx}
def CS (ns ms:List Int)(j:Nat):Bool:=ns.getD j 0 == ms.getD j 0
theorem zh {ns ms:List Int}(h:ns.length=ms.length):((FP ns.length).all λj=>CS ns ms j)=decide (ns=ms):=by
 rw[Hm,decide_eq_true_iff,GI]
 constructor
 ·intro hh
  refine MM h λj h1 h2 =>?_
  have:=hh j (FJ.mpr h1)
  unfold CS at this
  rw[EF,EF,EA h1,EA h2] at this
  exact of_decide_eq_true (by simpa using this)
 ·rintro rfl j _
  exact beq_self_eq_true _
theorem intAt {ns:List Int}{us:List EB}(r:Vals (ns.map V.int) us){j:Nat}(h:j<us.toArray.size):∃t,us.toArray[j] = .int (ns.getD j 0) t:=by
 have l:=r.length
 rw[Ex] at l
 rw[EM] at h
 have e1:(ns.map V.int)[j]? = some (.int (ns.getD j 0)):=by
  rw[ET,EF,EA (by lia)]
  rfl
 obtain ⟨u,g1,q1⟩:=r.get e1
 have f1:us.toArray[j]=u:=by simp[EJ] at g1;obtain ⟨_,g⟩:=g1;simpa using g
 rw[f1]
 exact q1
end
end L2
namespace HT
open PySem PySem.Spec PyProof.Rows
section
variable  {prog:EV}{w:Fm}{A:FN}{R:Result->EG->Prop}{I:Addr}{fp wr:List Addr}{n:Nat}{P:Nat->EB->Prop}{St:Nat->Heap->Prop}{kw:List (Str×EB)}
end
section
variable  {prog:EV}{w:Fm}{A:FN}{E:EB->EG->Prop}{s:EG}{l:Addr}{xs:Array (Int×Tok)}
end
end HT
namespace L2
open PySem PyProof.Rows
section
variable  {X:Cx}{x:Str}{id:String}{e:Expr}{es:List Expr}{kws:List Keyword}{p pos:Pos}{t tk:TA}{ks:List Str}{r:List V->List V->Hp->VK->Prop}
end
section
variable  {X:Cx}
theorem zi {ns:List Int}{j:Nat}(h:j<ns.length):ns.getD j 0∈ns:=by
 rw[EF,EA h]
 exact GJ h
theorem zj {ns:List Int}{a:Int}(h:a∈ns):∃j,j<ns.length/\ns.getD j 0=a:=by
 obtain ⟨j,hj,e⟩:=HE h
 exact ⟨j,hj,by rw[EF,EA hj];exact e⟩
end
section
variable  {X:Cx}
def vq (ns ms:List Int)(j:Nat):Bool:=ns.getD j 0 == ms.getD j 0
theorem xx {ns ms:List Int}(h:ns.length=ms.length):((FP ns.length).all λj=>vq ns ms j)=decide (ns=ms):=by
 rw[Hm,decide_eq_true_iff,GI]
 constructor
 ·intro hh
  refine MM h λj h1 h2 =>?_
  have:=hh j (FJ.mpr h1)
  unfold vq at this
  rw[EF,EF,EA h1,EA h2] at this
  exact of_decide_eq_true (by simpa using this)
 ·rintro rfl j _
  exact beq_self_eq_true _
theorem xA {ns ms:List Int}:((FP (min ns.length ms.length)).all (vq ns ms) && ns.length == ms.length)=decide (ns=ms):=by
 by_cases h:ns.length=ms.length
 ·rw[<- h,Ke,show (ns.length == ns.length)=true from beq_self_eq_true _,Bool.and_true]
  exact xx h
 ·have ne:ns≠ms:=λz=>h (by rw[z])
  rw[decide_eq_false ne,show (ns.length == ms.length)=false from by simpa using h,HS]
theorem zk {ns:List Int}{us:List EB}(r:Vals (ns.map V.int) us){j:Nat}(h:j<us.toArray.size):∃t,us.toArray[j] = .int (ns.getD j 0) t:=by
 have l:=r.length
 rw[Ex] at l
 rw[EM] at h
 have e1:(ns.map V.int)[j]? = some (.int (ns.getD j 0)):=by
  rw[ET,EF,EA (by lia)]
  rfl
 obtain ⟨u,g1,q1⟩:=r.get e1
 have f1:us.toArray[j]=u:=by simp[EJ] at g1;obtain ⟨_,g⟩:=g1;simpa using g
 rw[f1]
 exact q1
theorem vt {k:Nat}(hr:dB k X.A):OpR X (Gw .Eq) (λx y H Q=>∃(a b:Addr) (ns ms:List Int),x = .ref a/\y = .ref b/\SqT X.K H a (ns.map V.int)/\SqT X.K H b (ms.map V.int)/\Q (.bl (decide (ns=ms))) H):=by
 intro pins s σ H x y v u Q I rx ry h
 obtain ⟨a,b,ns,ms,rfl,rfl,h1,h2,q⟩:=h
 cases (show v=E2 a from rx)
 cases (show u=E2 b from ry)
 obtain ⟨its,r1,p1,_⟩:=I.tuple h1
 obtain ⟨its2,r2,p2,_⟩:=I.tuple h2
 have l1:=r1.length
 have l2:=r2.length
 rw[Ex] at l1 l2
 have hu:=hr.un
 have hu1:X.A.units<cLine:=by lia
 have R:=SeqAt.RcAt.tuples (A:=X.A) (e:=vq ns ms) (show s.heap.IsTuple a its.toArray from p1) (show s.heap.IsTuple b its2.toArray from p2) hu1 (by
  intro j h1 h2
  obtain ⟨t1,g1⟩:=zk r1 h1
  obtain ⟨t2,g2⟩:=zk r2 h2
  rw[g1,g2]
  exact Jf _ t1 _ t2)
 rw[EM,EM, <- l1, <- l2,xA] at R
 exact R _ _ _ _ ⟨.bl _,H,I,rfl,q⟩
def Wd (i:Int):Prop:=i.natAbs<2 ^ 4000
theorem Wd.bits {i:Int}(h:Wd i):Builtin.Int.intBits i<=2 ^ 20:=by
 unfold Builtin.Int.intBits
 split
 ·exact FE _
 ·have:i.natAbs.log2<4000:=by
   rcases Iz i.natAbs with h0 | hp
   ·rw[h0];decide
   ·exact (Nat.log2_lt (by lia)).mpr h
  lia
def DX (i j:Int):Prop:=Wd i/\Wd j
theorem bQ:OpR X (binaryOp .Mult) (rI DX λi j =>.int (i*j)):=opI λ_ _ _ _ _ _ _ hc q=>mul_int q (IntMulOk.of_bits hc.1.bits hc.2.bits)
def DY (_ j:Int):Prop:=0<j/\Wd j
theorem gI:OpR X (binaryOp .FloorDiv) (rI DY λi j =>.int (i/j)):=opI λi j _ _ _ _ _ hc q=>by
 have h1:(0:Int)<j:=hc.1
 have h2:j.natAbs.log2<9000:=by
  have:j.natAbs.log2<4000:=(Nat.log2_lt (by lia)).mpr hc.2
  lia
 refine floordiv_int (by lia) ?_ (.inl (PyProof.noPylong_of_log2 h2))
 rw[J6 i (by lia)]
 exact q
structure zo (P:EV)(w:Fm)(K:Ez)(mg:Str->Option EB)(base:Heap)(k:Nat)(x:Str)(ps:List Str)(sp:Sp)(dv:V):Prop where
 ex:∃f fd d,aV P w K mg base CX0 k f fd ps sp/\mg x=some (.ref f)/\PySem.W.keepIn K (.ref f)=true/\Binds K fd ps [d]/\RelV dv d
theorem qo {dv:V}{j k:Nat}{x:Str}{ps:List Str}{sp:Sp}{e:Expr}{es:List Expr}{t:TA}{p pos:Pos}(C:zo X.prog X.w X.K X.mg X.base k x ps sp dv)(hr:dB j X.A)(hj:k<=j)(hg:Gl X x)(ha:PA X (e :: es) t)
  (hdb:(x == ("__debug__" : Str))=false:=by decide) (he:FT (e :: es) X.env=(false,eval e X.env) :: FT es X.env:=by rfl) (hpl:(Jn pos (FT es X.env)).any (·.1)=false:=by rfl) :
  PE X (.Call (.Name x p) (e :: es) [] pos) (yI sp [dv] E0 t):=by
 obtain ⟨f,fd,d,F,m,kp,b,rd⟩:=C.ex
 exact vc F (hr.mono hj) hg m kp b (.cons rd .nil) B4 ha hdb he hpl
end
section
variable  {P:EV}{w:Fm}{K:Ez}{mg:Str->Option EB}{base:Heap}
structure zp (K:Ez)(x qual:Str)(st:Stmt)(f:Addr)(fd:Fi)(T:Addr):Prop where
 ex:∃(oc:EB) (od:Option Addr) (kV doc pm:EB) (an:Option Addr) (cdv ct:EB) (osl:Array (Option EB)),
  fd=PySem.W.fnOf x qual (bP st) (bA st) (au st) (.ref T) kV doc pm an cdv ct/\K.lookup f=some ⟨oc,od,.func fd,osl⟩/\PySem.W.codeIn K cdv qual=true
 kp:PySem.W.keepIn K (.ref f)=true
theorem zp.ok {x qual:Str}{st:Stmt}{f T:Addr}{fd:Fi}{N ps:List Str}{k:Nat}{sp:Sp}(F:zp K x qual st f fd T)(S:aG N ps (au st))(len:∀vs H Q E,sp vs H Q E->vs.length=ps.length)
  (hbody:∀(cdv:EB) (A:FN) (outer:List Env) (s:EG) (H:Hp) (vs:List V) (Q:VK) (E:XK),dB k (A.deeper (envOfC qual (au st) s.heap.objs.size f cdv))->sp vs H Q E →
   ∃t,PSs (ku CX0 P w K mg base N qual (au st) f cdv A outer s H E).nox (bA st) t/\t { nx:=λ_ H'=>Q .non H',rt:=Q } (start N vs) H):aV P w K mg base CX0 (k+1) f fd ps sp:=by
 obtain ⟨oc,od,kV,doc,pm,an,cdv,ct,osl,rfl,lk,hcd⟩:=F.ex
 refine B3 lk hcd S len λA outer s H vs Q E hr hsp =>?_
 obtain ⟨t,h,q⟩:=hbody cdv A outer s H vs Q E hr hsp
 exact ⟨t,h.nox,q⟩
theorem Bk {x qual:Str}{st:Stmt}{f T:Addr}{oc:EB}{od an:Option Addr}{osl:Array (Option EB)}{kV doc pm cdv ct:EB}(l:K.lookup f=some ⟨oc,od,.func (PySem.W.fnOf x qual (bP st) (bA st) (au st) (.ref T) kV doc pm an cdv ct),osl⟩)
  (c:PySem.W.codeIn K cdv qual=true) (k:PySem.W.keepIn K (.ref f)=true):zp K x qual st f (PySem.W.fnOf x qual (bP st) (bA st) (au st) (.ref T) kV doc pm an cdv ct) T:=⟨⟨oc,od,kV,doc,pm,an,cdv,ct,osl,rfl,l,c⟩,k⟩
end
end L2
namespace L2.Rev
open PySem
open Sem (wp)
section
variable  {prog:EV}{w:Fm}{A:FN}{E:EB->EG->Prop}{s:EG}
end
end L2.Rev
namespace L2
open PySem PySem.Spec PyProof.Rows
section
variable  {X:Cx}
theorem si:F1 "reversed" = some (.type "reversed"):=by decide +kernel
theorem sj:∀{xs:List V} {us:List EB},Vals xs us->Vals xs.reverse us.reverse
 | [],[],_ =>.nil
 | x :: xs,u :: us,.cons h t=>by
  rw[II,II]
  exact (sj t).append (.cons h .nil)
end
end L2
namespace L2.Rem
open PySem PySem.SeqAt PySem.MeetsSeq
open AutoSeq1 (wpAny_loadPart')
end L2.Rem
namespace L2
open PySem PySem.Spec PyProof.Rows
section
variable  {X:Cx}
theorem any_range {bs:List Bool}:((FP bs.length).any λi=>bs.getD i false)=bs.any id:=by
 rw[Hm,IS,IS]
 constructor
 ·rintro ⟨i,hi,h⟩
  have lt:=FJ.mp hi
  rw[EF,EA lt] at h
  exact ⟨bs[i],GJ lt,h⟩
 ·rintro ⟨b,hb,h⟩
  obtain ⟨i,lt,e⟩:=HE hb
  refine ⟨i,FJ.mpr lt,?_⟩
  rw[EF,EA lt,e]
  exact h
theorem zq (hc:X.calm=true):bD X (.builtin "any") (λxs H Q=>∃(p:Addr) (bs:List Bool),xs=[.ref p]/\SqL X.K H p (bs.map V.bl)/\Q (.bl (bs.any id)) H):=by
 intro pins s σ H xs us Q I r h
 obtain ⟨p,bs,rfl,hs,q⟩:=h
 obtain ⟨u,rfl,ru⟩:=vals1 r
 cases (show u=E2 p from ru)
 obtain ⟨its,rv,pl,hz⟩:=I.list hs
 have l:=rv.length
 rw[Ex] at l
 have hpl:p<s.heap.objs.size:=by obtain ⟨o,_,e,_⟩:=pl;exact EN e
 refine call_any_walk (Hi pl.isList ?_)
 have hd:X.A.in1.handled=none:=I.ok.hd hc
 refine ⟨s.heap.objs.size,_,_,_,_,_,_,rfl,Lo hd s.heap.objs.size p (EY hpl) its.toArray,⟨⟨_,EK _ rfl,rfl,rfl⟩,?_⟩,lJ rv,λh' tk k =>?_⟩
 ·exact pl.isList.at λo e=>Ey _ e
 ·have e:((FP its.toArray.size).any λi=>bs.getD i false)=bs.any id:=by rw[EM, <- l,any_range]
  rw[e]
  refine ⟨.bl (bs.any id),H,I.kept (t':=tk) (λb o eb=>k b o ?_ (Ey _ eb)),rfl,q⟩
  intro hb
  have:b=s.heap.objs.size:=by simpa using hb
  exact absurd (EN eb) (by rw[this];exact Fl _)
end
section
variable  {X:Cx}
theorem sk:bD X (.builtin "len") (λxs H Q=>∃(a:Addr) (ys:List V),xs=[.ref a]/\H a=some (eZ X.w a ys)/\ys.length<1000/\Q (.int ys.length) H):=by
 intro pins s σ H xs us Q I r h
 obtain ⟨a,ys,rfl,ha,hl,q⟩:=h
 obtain ⟨u,rfl,ru⟩:=vals1 r
 cases (show u=E2 a from ru)
 obtain ⟨⟨es,⟨ep,t,ho,T,_⟩,rv⟩,_⟩:=(show ba X.prog X.w H s.heap a (eZ X.w a ys) from I.hok a _ ha)
 have l:=rv.length
 have l2:es.size=ys.length:=by simpa using l.symm
 refine call_len_set ho ⟨rfl,rfl,rfl⟩ rfl (by have:=T.fits;rwa [FL] at this) (by lia) ?_
 rw[l2]
 exact ⟨.int ys.length,H,I.tok _,⟨_,rfl⟩,q⟩
end
theorem Inv.xC {X:Cx}{pins:List (Addr×Obj)}{σ:St}{H:Hp}{s:EG}{h':Heap}{t':Nat}{ch:List Addr}(I:Inv X pins σ H s)(f:∀b∈ch,gs X pins H b)
  (k:∀b ob,b∉ch->s.heap.get? b=some ob->h'.get? b=some ob):Inv X pins σ H { s with heap:=h',toks:=t' }:=by
 have nit:∀b u,H b=some u->b∉ch:=λb u e z=>by have:=(f b z).1;rw[this] at e;cases e
 refine I.step (g':=s.gens) (d':=s.drawn) (ch:=ch) (λb hb =>?_) (λb o _ _ hc e _=>k b o hc e) (λb o _ _ hc e _=>⟨o.slots,k b o hc e⟩) (λ_ _ _ _ n=>n)
  (λb o hc e=>⟨o,k b o hc e⟩) (λ_ _ e=>e) (λ_ _ _ e=>e) (λb ps e=>⟨#[],by rw[e];simp⟩) (λm hm =>?_) (λb u e =>?_) I.bare
 ·obtain ⟨g0,g1,g2,g3,g4,g5⟩:=f b hb
  exact ⟨g3,g1,g4,g5⟩
 ·obtain ⟨o,es,ep,ho,r⟩:=hm
  exact ⟨o,es,ep,k _ o (λz=>(f _ z).2.1 rfl) ho,r⟩
 ·refine (I.hok b u e).stay (λc v hc q=>k c v ?_ q) (λ_ q=>q) λ_ _ q=>q
  rcases hc with z | z
  ·rw[z];exact nit b u e
  ·exact nit c _ z
theorem CT (n a b:Nat)(h1:a<n)(h2:b<n):ZipApart (n+4) (n+2) (n+3) n (n+1) a b :=
  ⟨λz=>absurd (show n+2=n+4 from z) (by lia),λz=>absurd (show n+3=n+4 from z) (by lia),λz=>absurd (show n=n+4 from z) (by lia),λz=>absurd (show n+1=n+4 from z) (by lia),λz=>absurd (show n+2=n+3 from z) (by lia),λz=>absurd (show n+2=n from z) (by lia),λz=>absurd (show n+2=n+1 from z) (by lia),λz=>absurd (show n+3=n from z) (by lia),λz=>absurd (show n+3=n+1 from z) (by lia),λz=>absurd (show n=n+1 from z) (by lia),
   λz=>absurd (show a=n+4 from z) (by lia),λz=>absurd (show a=n+3 from z) (by lia),λz=>absurd (show a=n from z) (by lia),λz=>absurd (show a=n+1 from z) (by lia),λz=>absurd (show b=n+4 from z) (by lia),λz=>absurd (show b=n+3 from z) (by lia),λz=>absurd (show b=n from z) (by lia),λz=>absurd (show b=n+1 from z) (by lia)⟩
theorem boot_zip:F1 "zip" = some (.type "zip"):=by decide +kernel
section
variable  {X:Cx}
end
theorem zr {xs:List Int}{d:Int}(h0:0<=d)(h1:d<xs.length):∃v,v∈xs/\atI (xs.map V.int) d=some (.int v):=by
 obtain ⟨n,rfl⟩:∃n:Nat,d=n:=⟨d.toNat,by lia⟩
 have hn:n<xs.length:=by lia
 refine ⟨xs[n],GJ hn,cC ?_⟩
 rw[ET,EA hn]
 rfl
theorem Bm {α:Type}{g:α -> Addr}{ts:List α}{d:Int}(h0:0<=d)(h1:d<ts.length):∃u,u∈ts/\atI (ts.map λt=>V.ref (g t)) d=some (.ref (g u)):=by
 obtain ⟨n,rfl⟩:∃n:Nat,d=n:=⟨d.toNat,by lia⟩
 have hn:n<ts.length:=by lia
 refine ⟨ts[n],GJ hn,cC ?_⟩
 rw[ET,EA hn]
 rfl
theorem sq (k:Int):∀ps:List Int,inV (.int k) (ps.map V.int)=decide (k∈ps)
 | []=>by simp[inV]
 | p :: ps=>by
  have ih:=sq k ps
  unfold inV at ih ⊢
  rw[EZ,IG,ih]
  have e:eqV (.int p) (.int k)=(p == k):=rfl
  rw[e]
  by_cases h:p=k
  ·subst h;simp
  ·rw[beq_eq_false_iff_ne.mpr h,L5]
   apply decide_eq_decide.mpr
   rw[EW]
   exact ⟨.inr,λx=>x.elim (λy=>absurd y.symm h) id⟩
def Pt (n:Nat)(H:Hp)(p:Addr):Prop:=∃xs:List Int,xs.length=n/\H p=some (.lst (xs.map V.int))
structure Bu (n:Nat)(p:Addr)(H H':Hp):Prop where
 pot:Pt n H' p
 st:∀q o,q≠p->H q=some o->H' q=some o
theorem Pt.same {n:Nat}{p:Addr}{H H1:Hp}(a:Pt n H p)(s:az H H1):Pt n H1 p:=by obtain ⟨xs,l,e⟩:=a;exact ⟨xs,l,s _ _ e⟩
theorem Pt.neT {n:Nat}{p b:Addr}{H:Hp}{ys:List V}(a:Pt n H p)(h:H b=some (.tup ys)):b≠p:=by
 obtain ⟨xs,_,e⟩:=a
 exact lC h e (by intro z;cases z)
theorem Bu.refl {n:Nat}{p:Addr}{H:Hp}(h:Pt n H p):Bu n p H H:=⟨h,λ_ _ _ z=>z⟩
theorem Bu.trans {n:Nat}{p:Addr}{H H1 H2:Hp}(a:Bu n p H H1)(b:Bu n p H1 H2):Bu n p H H2:=⟨b.pot,λq o m z=>b.st q o m (a.st q o m z)⟩
theorem Bu.same {n:Nat}{p:Addr}{H H1 H2:Hp}(a:Bu n p H H1)(b:az H1 H2):Bu n p H H2:=⟨a.pot.same b,λq o m z=>b _ _ (a.st q o m z)⟩
theorem Bu.put {n:Nat}{p:Addr}{H H1:Hp}(a:Bu n p H H1){ys:List Int}(l:ys.length=n):Bu n p H (upd H1 p (.lst (ys.map V.int))):=⟨⟨ys,l,ai⟩,λq o m z=>by rw[aH m];exact a.st q o m z⟩
theorem Bu.cF {n:Nat}{p l:Addr}{H H1:Hp}(a:Bu n p H H1)(hl:H l=none)(np:l≠p)(o:HO):Bu n p H (upd H1 l o):=⟨by obtain ⟨xs,z,e⟩:=a.pot;exact ⟨xs,z,by rw[aH np.symm];exact e⟩,λq u m z=>by rw[aH (aJ z hl)];exact a.st q u m z⟩
theorem Bu.tup {n:Nat}{p q:Addr}{H H1:Hp}(a:Bu n p H H1)(h:Pt n H p){xs:List V}(t:H q=some (.tup xs)):H1 q=some (.tup xs):=a.st q _ (h.neT t) t
theorem Bu.fresh {n:Nat}{p:Addr}{H H':Hp}{o:HO}(h:H p=none)(b:Bu n p (upd H p o) H'):az H H':=λq u e=>by
 have m:q≠p:=aJ e h
 refine b.st q u m ?_
 rw[aH m]
 exact e
def Tus (H:Hp)(ts:List (Addr×List Int)):Prop:=∀u∈ts,H u.1=some (.tup (u.2.map V.int))
theorem Tus.same {H H':Hp}{ts:List (Addr×List Int)}(h:Tus H ts)(s:az H H'):Tus H' ts:=λu hu=>s _ _ (h u hu)
theorem Tus.bu {n:Nat}{p:Addr}{H H':Hp}{ts:List (Addr×List Int)}(h:Tus H ts)(b:Bu n p H H')(hp:Pt n H p):Tus H' ts:=λu hu=>b.tup hp (h u hu)
theorem Tus.snoc {H:Hp}{ts:List (Addr×List Int)}(h:Tus H ts){u:Addr×List Int}(e:H u.1=some (.tup (u.2.map V.int))):Tus H (ts++[u]):=λv hv=>by
 rcases EU.mp hv with z | z
 ·exact h v z
 ·rw[ED] at z;subst z;exact e
variable  {X:Cx}
section
variable  {X:Cx}
theorem uq {k:Int}:∀{ns:List Int} {m:Nat} (h:m<ns.length),m<ns.idxOf k->ns[m]≠k
 | [],m,h,_=>absurd h (HZ _)
 | n :: ns,0,_,l=>by
  intro z
  have e:(n :: ns)[0]=n:=rfl
  rw[e] at z
  subst z
  simp at l
 | n :: ns,m+1,h,l=>by
  have h':m<ns.length:=Nat.lt_of_succ_lt_succ h
  show ns[m]≠k
  refine uq h' ?_
  by_cases e:n=k
  ·subst e;simp at l
  ·rw[List.idxOf_cons,show (n == k)=false by simpa using e] at l
   simp at l
   exact l
theorem xD:MtR X "list.index" (λx vs H Q=>∃(p:Addr) (ns:List Int) (k:Int),x = .ref p/\vs=[.int k]/\H p=some (.lst (ns.map V.int))/\k∈ns/\ns.length<=100000/\Q (.int (ns.idxOf k:Nat)) H):=by
 intro pins s σ H x vs v us Q I rx rv h
 obtain ⟨p,ns,k,rfl,rfl,hp,hk,hz,q⟩:=h
 cases rx
 obtain ⟨u,rfl,⟨t,rfl⟩⟩:=vals1 rv
 obtain ⟨z,its,n,r,e1⟩:=(show ba X.prog X.w H s.heap p (.lst _) from I.hok p _ hp)
 have hi:Hj its ns:=intsAre_of r
 have hlen:=hi.length
 have hj:ns.idxOf k<ns.length:=G3.mpr hk
 refine JP KC ⟨_,e1,rfl⟩ PySem.F.entry_list_index (PySem.F.args_list_index_2 _ _) (SeqAt.list_indexAt p its.toArray n none #[] (.int k t) (isInt k) (ns.idxOf k) (by simpa [hlen] using hj) (by lia) ?_ ?_) ⟨e1,λy hy=>oV hi y hy,⟨.int _,H,I.tok _,⟨_,rfl⟩,q⟩⟩
 ·show isInt k its[ns.idxOf k]=true
  rw[Nw k hi _ (by lia) hj];simpa using Ji hj
 ·intro j hjs hlt
  show isInt k its[j]=false
  rw[Nw k hi j (by simpa using hjs) (by lia)]
  simpa using uq (by lia) hlt
def vv (K:Ez):R2:=λx y H Q=>∃a b xs ys,x = .ref a/\y = .ref b/\SqT K H a xs/\SqT K H b ys/\xs.length+ys.length<=ES/\(xs=[]->Q (.ref b) H)/\(ys=[]->Q (.ref a) H)/\(xs≠[]->ys≠[]->∀p,H p=none->Q (.ref p) (upd H p (.tup (xs++ys))))
theorem zu:OpR X (binaryOp .Add) (vv X.K):=by
 intro pins s σ H x y v u Q I rx ry h
 obtain ⟨a,b,xs,ys,rfl,rfl,ha,hb,hz,q1,q2,q3⟩:=h
 by_cases hx:xs=[]
 ·cases rx
  cases ry
  obtain ⟨its,r1,p1,_⟩:=I.tuple ha
  obtain ⟨its2,r2,p2,_⟩:=I.tuple hb
  obtain ⟨⟨c1,d1,da1,s1⟩,o1,k1,n1,g1⟩:=id p1
  obtain ⟨⟨c2,d2,da2,s2⟩,o2,k2,n2,g2⟩:=id p2
  simp only at k1 g1 k2 g2
  subst k1 g1 k2 g2
  have e0:its=[]:=r1.ma.mpr hx
  exact Li ⟨_,o1,rfl⟩ ⟨_,o2,rfl⟩ KS L7 Jl Jh (IY _ _)
   (tuple_addW0 a b its.toArray its2.toArray n1 n2 d1 d2 s1 s2 (by simp[e0])) ⟨o1,o2,⟨.ref b,H,I,rfl,q1 hx⟩⟩
 ·exact AU pins s σ H _ _ v u Q I rx ry ⟨a,b,xs,ys,rfl,rfl,ha,hb,hx,hz,q2,λhy=>q3 hx hy⟩
theorem vv.one {K:Ez}{H:Hp}{Q:VK}{a b:Addr}{xs ys:List V}(ha:H a=some (.tup xs))(hb:H b=some (.tup ys))(hz:xs.length+ys.length<=ES)(q:∀p H',az H H'->H' p=some (.tup (xs++ys))->Q (.ref p) H'):vv K (.ref a) (.ref b) H Q:=by
 refine ⟨a,b,xs,ys,rfl,rfl,SqT.of ha,SqT.of hb,hz,λz =>?_,λz =>?_,λ_ _ p hp=>q p _ (ak hp _) ai⟩
 ·subst z;exact q b H (az.refl _) hb
 ·subst z;exact q a H (az.refl _) (by rw[FQ];exact ha)
end
def ItB:Bool->Heap->Addr->Addr->Nat->Prop
 | true,h,it,l,i=>h.IsListIter it l i
 | false,h,it,l,i=>h.IsTupleIter it l i
def SB':Bool->Heap->Addr->Array EB->Prop
 | true,h,l,xs=>h.IsList l xs
 | false,h,l,xs=>h.IsTuple l xs
theorem ItB.to {b:Bool}{h h':Heap}{it l:Addr}{i:Nat}(x:ItB b h it l i)(k:∀o,h.get? it=some o->h'.get? it=some o):ItB b h' it l i:=by
 cases b
 ·exact Heap.IsTupleIter.at (show h.IsTupleIter it l i from x) k
 ·exact Heap.IsListIter.at (show h.IsListIter it l i from x) k
theorem SB'.to {b:Bool}{h h':Heap}{l:Addr}{xs:Array EB}(x:SB' b h l xs)(k:∀o,h.get? l=some o->h'.get? l=some o):SB' b h' l xs:=by
 cases b
 ·obtain ⟨o,e,r⟩:=(show h.IsTuple l xs from x);exact ⟨o,k o e,r⟩
 ·obtain ⟨o,e,r⟩:=(show h.IsList l xs from x);exact ⟨o,k o e,r⟩
theorem ItB.lt {b:Bool}{h:Heap}{it l:Addr}{i:Nat}(x:ItB b h it l i):it<h.objs.size:=by
 cases b
 ·obtain ⟨o,e,_⟩:=(show h.IsTupleIter it l i from x);exact EN e
 ·obtain ⟨o,e,_⟩:=(show h.IsListIter it l i from x);exact EN e
theorem ItB.obj {b:Bool}{h:Heap}{it l:Addr}{i:Nat}(x:ItB b h it l i):∃o,h.get? it=some o/\∀v,o.data ≠ .cell v:=by
 cases b
 ·obtain ⟨o,e,_,d⟩:=(show h.IsTupleIter it l i from x);exact ⟨o,e,λv z=>by rw[d] at z;cases z⟩
 ·obtain ⟨o,e,_,d⟩:=(show h.IsListIter it l i from x);exact ⟨o,e,λv z=>by rw[d] at z;cases z⟩
section
variable  {prog:EV}{w:Fm}{A:FN}{E:EB->EG->Prop}{s:EG}
theorem zv {b:Bool}{it l:Addr}{i:Nat}{xs:Array EB}{x:EB}{Q:EB->EG->Prop}(hi:ItB b s.heap it l i)(hl:SB' b s.heap l xs)(hx:xs[i]? = some x)
  (q:∀h',ItB b h' it l (i+1)->Heap.SameBut it s.heap h'->Q x { s with heap:=h' }):E4 (Fq prog w) A (Builtin.SmallTypes.nextOf (.ref it)) Q E s:=by
 cases b
 ·exact mR hi hl hx q
 ·exact wpAny_nextOf_list_item hi hl hx q
theorem pf {b:Bool}{it l:Addr}{i:Nat}{xs:Array EB}{Q:EB->EG->Prop}(hh:A.handled=none)(hi:ItB b s.heap it l i)(hl:SB' b s.heap l xs)(hx:xs[i]? = none)
  (q:∀h' e,Heap.ExtBut it s.heap h'->(∃o,h'.get? e=some o/\o.cls = .type "StopIteration")->E (.ref e) { s with heap:=h' }):E4 (Fq prog w) A (Builtin.SmallTypes.nextOf (.ref it)) Q E s:=by
 cases b
 ·exact dQ hh hi hl hx q
 ·exact wpAny_nextOf_list_end hh hi hl hx q
theorem xE {c d:Bool}{z TI TO i1 i2 l1 l2:Addr}{k1 k2:Nat}{xs ys:Array EB}{x y a b:EB}{Q:EB->EG->Prop}(D:ZipApart z TI TO i1 i2 l1 l2)
  (hz:IsZip s.heap z TI TO .none) (hTI:IsPair s.heap TI (.ref i1) (.ref i2)) (hTO:IsPair s.heap TO a b)
  (j1:ItB c s.heap i1 l1 k1) (j2:ItB d s.heap i2 l2 k2) (m1:SB' c s.heap l1 xs) (m2:SB' d s.heap l2 ys) (hx:xs[k1]? = some x) (hy:ys[k2]? = some y)
  (hQ:∀h',IsZip h' z TI TO (Ih s.heap.objs.size)->IsPair h' TO x y->ItB c h' i1 l1 (k1+1)->ItB d h' i2 l2 (k2+1)->IsPair h' s.heap.objs.size x y->h'.objs.size=s.heap.objs.size+1 →
   (∀c o,c≠z->c≠TO->c≠i1->c≠i2->s.heap.get? c=some o->h'.get? c=some o)->Q (.ref s.heap.objs.size) { s with heap:=h' }) :
  E4 (Fq prog w) A (Builtin.«zip.__next__» ⟨[.ref z],[]⟩) (λfin s'=>∃v,fin = .done (.ret v)/\Q v s') E s:=by
 show E4 _ _ (field (.ref z) 2 >>= _) _ _ _;refine Ew (Gf hz rfl (x :=.bool false) rfl ?_)
 show E4 _ _ (field (.ref z) 3 >>= _) _ _ _;refine Ew (Gf hz rfl (x :=.ref TI) rfl ?_)
 refine Ew (Gk hTI rfl ?_);show E4 _ _ (Builtin.SmallTypes.ownedTupleIsFree (.ref z) >>= _) _ _ _
 refine Ew ?_;unfold Builtin.SmallTypes.ownedTupleIsFree
 refine Ew (Gf hz rfl (x :=.none) rfl (EC ?_));simp only[if_true]
 refine Ew (HC ?_);refine Ew (Gf hz rfl (x :=.ref TO) rfl ?_)
 refine Ew (GU hz (by simp) λg1 hz1 s1 =>?_);replace hz1:IsZip g1 z TI TO .ellipsis:=hz1
 refine Ew ?_;simp only[MN,M0,K7,LG]
 refine Ew (Ew (KO ?_));show E4 _ _ (Builtin.SmallTypes.nextOf (.ref i1) >>= _) _ _ _
 refine Ew (zv (j1.to λo e=>s1.extBut _ _ D.i1z e) (m1.to λo e=>s1.extBut _ _ D.l1z e) hx λg2 j1' s2=>EC ?_)
 have t2:IsPair g2 TO a b:=s2.extBut _ _ D.TOi1 (s1.extBut _ _ D.TOz hTO)
 refine Ew (Gk t2 rfl ?_);refine Ew (JL t2 λg3 t3 s3 =>?_)
 replace t3:IsPair g3 TO x b:=t3;refine Ew (HX (EC ?_))
 refine Ew (Ew (KO ?_));show E4 _ _ (Builtin.SmallTypes.nextOf (.ref i2) >>= _) _ _ _
 refine Ew (zv (((j2.to λo e=>s1.extBut _ _ D.i2z e).to λo e=>s2.extBut _ _ D.i12.symm e).to λo e=>s3.extBut _ _ D.TOi2.symm e) (((m2.to λo e=>s1.extBut _ _ D.l2z e).to λo e=>s2.extBut _ _ D.l2i1 e).to λo e=>s3.extBut _ _ D.l2TO e) hy λg4 j2' s4=>EC ?_)
 have t4:IsPair g4 TO x b:=s4.extBut _ _ D.TOi2 t3
 refine Ew (Gk t4 rfl ?_);refine Ew (JL t4 λg5 t5 s5 =>?_)
 replace t5:IsPair g5 TO x y:=t5;refine Ew (HX (EC (EC ?_)))
 refine Ew (Gk t5 rfl ?_);refine Ew (wpAny_newTuple ?_)
 have sz:g5.objs.size=s.heap.objs.size:=by rw[s5.1,s4.1,s3.1,s2.1,s1.1]
 have z5:IsZip g5 z TI TO .ellipsis:=s5.extBut _ _ D.TOz.symm (s4.extBut _ _ D.i2z.symm (s3.extBut _ _ D.TOz.symm (s2.extBut _ _ D.i1z.symm hz1)))
 have k5:∀c o,c≠z->c≠TO->c≠i1->c≠i2->s.heap.get? c=some o->g5.get? c=some o:=λc o c1 c2 c3 c4 e=>s5.extBut _ _ c2 (s4.extBut _ _ c4 (s3.extBut _ _ c2 (s2.extBut _ _ c3 (s1.extBut _ _ c1 e))))
 have n1:ItB c g5 i1 l1 (k1+1):=((j1'.to λo e=>s3.extBut _ _ D.TOi1.symm e).to λo e=>s4.extBut _ _ D.i12 e).to λo e=>s5.extBut _ _ D.TOi1.symm e
 have n2:ItB d g5 i2 l2 (k2+1):=j2'.to λo e=>s5.extBut _ _ D.TOi2.symm e
 have zl:z<g5.objs.size:=EN z5
 show E4 _ _ (Builtin.SmallTypes.ownedTupleHandOut (.ref z) (.ref g5.objs.size) >>= _) _ _ _;refine Ew ?_
 unfold Builtin.SmallTypes.ownedTupleHandOut
 have z6:IsZip (g5.push { cls :=.type "tuple",data :=.seq #[x,y] }) z TI TO .ellipsis:=Ey _ z5
 refine Ew (GU z6 (by simp) λg7 z7 s7 =>?_);replace z7:IsZip g7 z TI TO (Ih g5.objs.size):=z7
 refine GU z7 (by simp) λg8 z8 s8 =>?_;replace z8:IsZip g8 z TI TO (Ih g5.objs.size):=z8
 have up:∀c o,c≠z->g5.get? c=some o->g8.get? c=some o:=λc o c1 e=>s8.extBut _ _ c1 (s7.extBut _ _ c1 (Ey _ e))
 have p8:IsPair g8 g5.objs.size x y:=s8.extBut _ _ (GZ zl) (s7.extBut _ _ (GZ zl) (EK _ rfl))
 have e8:g8.objs.size=g5.objs.size+1:=by rw[s8.1,s7.1,FK]
 rw[sz] at z8 p8 e8
 refine EC ⟨_,rfl,?_⟩;show Q (.ref g5.objs.size) _;rw[sz]
 exact hQ g8 z8 (up _ _ D.TOz t5) (n1.to λo e=>up _ o D.i1z e) (n2.to λo e=>up _ o D.i2z e) p8 e8 λc o c1 c2 c3 c4 e=>up c o c1 (k5 c o c1 c2 c3 c4 e)
theorem zw {c d:Bool}{z TI TO i1 i2 l1 l2:Addr}{k1 k2:Nat}{xs ys:Array EB}{a b:EB}{Q:Fin->EG->Prop}(hh:A.handled=none)(D:ZipApart z TI TO i1 i2 l1 l2)
  (hz:IsZip s.heap z TI TO .none) (hTI:IsPair s.heap TI (.ref i1) (.ref i2)) (hTO:IsPair s.heap TO a b)
  (j1:ItB c s.heap i1 l1 k1) (j2:ItB d s.heap i2 l2 k2) (m1:SB' c s.heap l1 xs) (m2:SB' d s.heap l2 ys) (hend:xs[k1]? = none\/ys[k2]? = none)
  (hE:∀h' e,(∀c o,c≠z->c≠TO->c≠i1->c≠i2->s.heap.get? c=some o->h'.get? c=some o)->(∃o,h'.get? e=some o/\o.cls = .type "StopIteration")->E (.ref e) { s with heap:=h' }) :
  E4 (Fq prog w) A (Builtin.«zip.__next__» ⟨[.ref z],[]⟩) Q E s:=by
 show E4 _ _ (field (.ref z) 2 >>= _) _ _ _;refine Ew (Gf hz rfl (x :=.bool false) rfl ?_)
 show E4 _ _ (field (.ref z) 3 >>= _) _ _ _;refine Ew (Gf hz rfl (x :=.ref TI) rfl ?_)
 refine Ew (Gk hTI rfl ?_);show E4 _ _ (Builtin.SmallTypes.ownedTupleIsFree (.ref z) >>= _) _ _ _
 refine Ew ?_;unfold Builtin.SmallTypes.ownedTupleIsFree
 refine Ew (Gf hz rfl (x :=.none) rfl (EC ?_));simp only[if_true]
 refine Ew (HC ?_);refine Ew (Gf hz rfl (x :=.ref TO) rfl ?_)
 refine Ew (GU hz (by simp) λg1 hz1 s1 =>?_);replace hz1:IsZip g1 z TI TO .ellipsis:=hz1
 refine Ew ?_;simp only[MN,M0,K7,LG]
 refine Ew (Ew (KO ?_));show E4 _ _ (Builtin.SmallTypes.nextOf (.ref i1) >>= _) _ _ _
 cases hx:xs[k1]? with
 | none =>
  refine Ew (pf hh (j1.to λo e=>s1.extBut _ _ D.i1z e) (m1.to λo e=>s1.extBut _ _ D.l1z e) hx λg2 e s2 he =>?_)
  obtain ⟨oe,hoe,hce⟩:=he
  have z2:IsZip g2 z TI TO .ellipsis:=s2 _ _ D.i1z.symm hz1
  have hez:e≠z:=λx=>by subst x;rw[z2] at hoe;cases hoe;simp at hce
  refine GU z2 (by simp) λg3 _ s3=>hE g3 e (λc o c1 _ c3 _ x=>s3.extBut _ _ c1 (s2 _ _ c3 (s1.extBut _ _ c1 x))) ⟨oe,s3.extBut _ _ hez hoe,hce⟩
 | some x =>
  have hy:ys[k2]? = none:=by rcases hend with h | h;rw[hx] at h;cases h;exact h
  refine Ew (zv (j1.to λo e=>s1.extBut _ _ D.i1z e) (m1.to λo e=>s1.extBut _ _ D.l1z e) hx λg2 j1' s2=>EC ?_)
  have t2:IsPair g2 TO a b:=s2.extBut _ _ D.TOi1 (s1.extBut _ _ D.TOz hTO)
  refine Ew (Gk t2 rfl ?_);refine Ew (JL t2 λg3 t3 s3 =>?_)
  refine Ew (HX (EC ?_));refine Ew (Ew (KO ?_))
  show E4 _ _ (Builtin.SmallTypes.nextOf (.ref i2) >>= _) _ _ _;refine Ew (pf hh (((j2.to λo e=>s1.extBut _ _ D.i2z e).to λo e=>s2.extBut _ _ D.i12.symm e).to λo e=>s3.extBut _ _ D.TOi2.symm e) (((m2.to λo e=>s1.extBut _ _ D.l2z e).to λo e=>s2.extBut _ _ D.l2i1 e).to λo e=>s3.extBut _ _ D.l2TO e) hy λg4 e s4 he =>?_)
  obtain ⟨oe,hoe,hce⟩:=he
  have z4:IsZip g4 z TI TO .ellipsis:=s4 _ _ D.i2z.symm (s3.extBut _ _ D.TOz.symm (s2.extBut _ _ D.i1z.symm hz1))
  have hez:e≠z:=λx=>by subst x;rw[z4] at hoe;cases hoe;simp at hce
  refine GU z4 (by simp) λg5 _ s5=>hE g5 e (λc o c1 c2 c3 c4 x=>s5.extBut _ _ c1 (s4 _ _ c4 (s3.extBut _ _ c2 (s2.extBut _ _ c3 (s1.extBut _ _ c1 x))))) ⟨oe,s5.extBut _ _ hez hoe,hce⟩
theorem sr {c d:Bool}{z TI TO i1 i2 l1 l2:Addr}{k1 k2:Nat}{xs ys:Array EB}{x y a b:EB}{Q:Option EB->EG->Prop}(D:ZipApart z TI TO i1 i2 l1 l2)
  (hz:IsZip s.heap z TI TO .none) (hTI:IsPair s.heap TI (.ref i1) (.ref i2)) (hTO:IsPair s.heap TO a b)
  (j1:ItB c s.heap i1 l1 k1) (j2:ItB d s.heap i2 l2 k2) (m1:SB' c s.heap l1 xs) (m2:SB' d s.heap l2 ys) (hx:xs[k1]? = some x) (hy:ys[k2]? = some y)
  (hQ:∀h',IsZip h' z TI TO (Ih s.heap.objs.size)->IsPair h' TO x y->ItB c h' i1 l1 (k1+1)->ItB d h' i2 l2 (k2+1)->IsPair h' s.heap.objs.size x y->h'.objs.size=s.heap.objs.size+1 →
   (∀c o,c≠z->c≠TO->c≠i1->c≠i2->s.heap.get? c=some o->h'.get? c=some o)->Q (some (.ref s.heap.objs.size)) { s with heap:=h' }):E4 (Fq prog w) A (pyNext (.ref z)) Q E s:=by
 have hT:s.TypeIs (.ref z) "zip" :=⟨_,hz,rfl⟩
 unfold pyNext;exact Ew (Hz (F7 (name:=Str.ofString "__next__") hT JX (FX JX hT MO (xE D hz hTI hTO j1 j2 m1 m2 hx hy λh' a1 a2 a3 a4 a5 a6 a7=>EC (hQ h' a1 a2 a3 a4 a5 a6 a7)) (Mo _))))
theorem lQ {c d:Bool}{z TI TO i1 i2 l1 l2:Addr}{k1 k2:Nat}{xs ys:Array EB}{a b:EB}{Q:Option EB->EG->Prop}(hh:A.handled=none)(D:ZipApart z TI TO i1 i2 l1 l2)
  (hz:IsZip s.heap z TI TO .none) (hTI:IsPair s.heap TI (.ref i1) (.ref i2)) (hTO:IsPair s.heap TO a b)
  (j1:ItB c s.heap i1 l1 k1) (j2:ItB d s.heap i2 l2 k2) (m1:SB' c s.heap l1 xs) (m2:SB' d s.heap l2 ys) (hend:xs[k1]? = none\/ys[k2]? = none)
  (hQ:∀h',(∀c o,c≠z->c≠TO->c≠i1->c≠i2->s.heap.get? c=some o->h'.get? c=some o)->Q none { s with heap:=h' }):E4 (Fq prog w) A (pyNext (.ref z)) Q E s:=by
 have hT:s.TypeIs (.ref z) "zip" :=⟨_,hz,rfl⟩
 unfold pyNext;refine Ew (Hz (F7 (name:=Str.ofString "__next__") hT JX (FX JX hT MO (zw hh D hz hTI hTO j1 j2 m1 m2 hend λh' e hk he =>?_) (Mo _))))
 obtain ⟨o,ho,hc⟩:=he
 refine Ew (HK (T := "StopIteration") (b:=true) ⟨o,ho,hc⟩ Kk ?_);exact EC (hQ _ hk)
def vw:Bool->String
 | true => "list_iterator"
 | false => "tuple_iterator"
def zB1 (c:Bool)(h:Heap)(l1:Addr):Heap:=h.push { cls :=.type (vw c),data :=.fields #[.ref l1,.int 0 0] }
def zB2 (c d:Bool)(h:Heap)(l1 l2:Addr):Heap:=(zB1 c h l1).push { cls :=.type (vw d),data :=.fields #[.ref l2,.int 0 0] }
def zB3 (c d:Bool)(h:Heap)(l1 l2:Addr):Heap:=(zB2 c d h l1 l2).push { cls :=.type "tuple",data :=.seq #[.ref h.objs.size,.ref (zB1 c h l1).objs.size] }
def zB4 (c d:Bool)(h:Heap)(l1 l2:Addr):Heap:=(zB3 c d h l1 l2).push { cls :=.type "tuple",data :=.seq #[.none,.none] }
def zB5 (c d:Bool)(h:Heap)(l1 l2:Addr):Heap:=(zB4 c d h l1 l2).push { cls :=.type "zip",data :=.fields #[.none,.bool false,.bool false,.ref (zB2 c d h l1 l2).objs.size,.ref (zB3 c d h l1 l2).objs.size] }
theorem Ca {c:Bool}{l:Addr}{xs:Array EB}{Q:EB->EG->Prop}(hl:SB' c s.heap l xs)(q:Q (.ref s.heap.objs.size) { s with heap:=zB1 c s.heap l }):E4 (Fq prog w) A (pyIter (.ref l)) Q E s:=by
 cases c
 ·exact GS hl q
 ·exact Hi hl q
theorem zx (c d:Bool)(l1 l2:Addr)(xs ys:Array EB):Meets (Builtin.«zip.__new__» ⟨[.type "zip",.ref l1,.ref l2],[]⟩) (λ_ R s=>SB' c s.heap l1 xs/\SB' d s.heap l2 ys ∧
   R (.ok (.ret (.ref (zB4 c d s.heap l1 l2).objs.size))) { s with heap:=zB5 c d s.heap l1 l2 }) :=
 .of_wp λprog w A R s h=>by
  obtain ⟨hp,g,dr,tk,os⟩:=s;obtain ⟨hl1,hl2,h⟩:=h
  have hsub:=sub_zip
  have m1:SB' c (Shared.heap ⟨hp,g,dr,tk,os⟩) l1 xs:=hl1
  have m2:SB' d (Shared.heap ⟨zB1 c hp l1,g,dr,tk,os⟩) l2 ys:=hl2.to λo e=>Ey _ e
  wp_walk using Ca m1,Ca m2
  exact ⟨_,rfl,h⟩
theorem xF {c d:Bool}{l1 l2:Addr}{xs ys:Array EB}{Q:EB->EG->Prop}(m1:SB' c s.heap l1 xs)(m2:SB' d s.heap l2 ys)
  (h:∀h',IsZip h' (s.heap.objs.size+4) (s.heap.objs.size+2) (s.heap.objs.size+3) .none->IsPair h' (s.heap.objs.size+2) (.ref s.heap.objs.size) (.ref (s.heap.objs.size+1)) →
   IsPair h' (s.heap.objs.size+3) .none .none->ItB c h' s.heap.objs.size l1 0->ItB d h' (s.heap.objs.size+1) l2 0 →
   (∀c o,s.heap.get? c=some o->h'.get? c=some o)->Q (.ref (s.heap.objs.size+4)) { s with heap:=h' }):E4 (Fq prog w) A (call (.type "zip") [.ref l1,.ref l2]) Q E s:=by
 refine Lj F.called_zip (by decide) (F.typeCall_zip_2 _ _) (F.newCall_zip_2 _ _) (λobj=>F.args_object_init_3 obj _ _) F.entry_zip_new (zx c d l1 l2 xs ys) ⟨m1,m2,?_⟩
 have z1:(zB1 c s.heap l1).objs.size=s.heap.objs.size+1:=FK ..
 have z2:(zB2 c d s.heap l1 l2).objs.size=s.heap.objs.size+2:=(FK ..).trans (by rw[z1])
 have z3:(zB3 c d s.heap l1 l2).objs.size=s.heap.objs.size+3:=(FK ..).trans (by rw[z2])
 have z4:(zB4 c d s.heap l1 l2).objs.size=s.heap.objs.size+4:=(FK ..).trans (by rw[z3])
 have g5:(zB5 c d s.heap l1 l2).get? (zB4 c d s.heap l1 l2).objs.size=some { cls :=.type "zip",data :=.fields #[.none,.bool false,.bool false,.ref (zB2 c d s.heap l1 l2).objs.size,.ref (zB3 c d s.heap l1 l2).objs.size] }:=EK _ rfl
 have g4:(zB5 c d s.heap l1 l2).get? (zB3 c d s.heap l1 l2).objs.size=some { cls :=.type "tuple",data :=.seq #[.none,.none] }:=Ey _ (EK _ rfl)
 have g3:(zB5 c d s.heap l1 l2).get? (zB2 c d s.heap l1 l2).objs.size=some { cls :=.type "tuple",data :=.seq #[.ref s.heap.objs.size,.ref (zB1 c s.heap l1).objs.size] }:=Ey _ (Ey _ (EK _ rfl))
 have g2:(zB5 c d s.heap l1 l2).get? (zB1 c s.heap l1).objs.size=some { cls :=.type (vw d),data :=.fields #[.ref l2,.int 0 0] }:=Ey _ (Ey _ (Ey _ (EK _ rfl)))
 have g1:(zB5 c d s.heap l1 l2).get? s.heap.objs.size=some { cls :=.type (vw c),data :=.fields #[.ref l1,.int 0 0] }:=Ey _ (Ey _ (Ey _ (Ey _ (EK _ rfl))))
 show _/\_
 rw[z2,z3,z4] at g5
 rw[z1,z2] at g3
 rw[z3] at g4
 rw[z1] at g2
 rw[z4]
 refine ⟨⟨_,g5,rfl⟩,h _ g5 g3 g4 ?_ ?_ λc' o x=>Ey _ (Ey _ (Ey _ (Ey _ (Ey _ x))))⟩
 ·cases c
  ·exact ⟨_,g1,rfl,rfl⟩
  ·exact ⟨_,g1,rfl,rfl⟩
 ·cases d
  ·exact ⟨_,g2,rfl,rfl⟩
  ·exact ⟨_,g2,rfl,rfl⟩
end
def SqB (K:Ez):Bool->Hp->Addr->List V->Prop
 | true,H,a,xs=>SqL K H a xs
 | false,H,a,xs=>SqT K H a xs
theorem SqB.row {X:Cx}{c:Bool}{pins:List (Addr×Obj)}{σ:St}{H:Hp}{s:EG}(I:Inv X pins σ H s){a:Addr}{xs:List V}(h:SqB X.K c H a xs):∃its:List EB,Vals xs its/\SB' c s.heap a its.toArray:=by
 cases c
 ·obtain ⟨its,r,p,_⟩:=I.tuple (show SqT X.K H a xs from h);exact ⟨its,r,p⟩
 ·obtain ⟨its,r,p,_⟩:=I.list (show SqL X.K H a xs from h);exact ⟨its,r,p.isList⟩
theorem SB'.lt {c:Bool}{h:Heap}{l:Addr}{xs:Array EB}(x:SB' c h l xs):l<h.objs.size:=by
 cases c
 ·obtain ⟨o,e,_⟩:=(show h.IsTuple l xs from x);exact EN e
 ·obtain ⟨o,e,_⟩:=(show h.IsList l xs from x);exact EN e
theorem SqB.inj {X:Cx}{c:Bool}{pins:List (Addr×Obj)}{σ:St}{H:Hp}{s:EG}(I:Inv X pins σ H s){a:Addr}{xs ys:List V}(h:SqB X.K c H a xs)(g:SqB X.K c H a ys):xs=ys:=by
 cases c
 ·exact I.ic h g
 ·exact I.mB h g
def ItZ (K:Ez)(c d:Bool)(a b:Addr):It :=
 ⟨λi H=>∃xs ys u v,SqB K c H a xs/\SqB K d H b ys/\xs[i]? = some u/\ys[i]? = some v,λi H x H'=>∃T u v,H T=none/\x = .ref T/\H'=upd H T (.tup [u,v])/\(∀xs,SqB K c H a xs->xs[i]? = some u)/\∀ys,SqB K d H b ys->ys[i]? = some v,λi H=>∃xs ys,SqB K c H a xs/\SqB K d H b ys/\(xs.length<=i\/ys.length<=i)⟩
theorem xG {P:EV}{w:Fm}{K:Ez}{elts:List Expr}{k:Nat}{pos:Pos}(c d:Bool)(a b z TI TO i1 i2:Addr)(D:ZipApart z TI TO i1 i2 a b):Turn P w K (.Tuple elts k pos) (ItZ K c d a b) [z,TI,TO,i1,i2] z (λi h=>IsZip h z TI TO .none/\IsPair h TI (.ref i1) (.ref i2)/\(∃x y,IsPair h TO x y)/\ItB c h i1 a i/\ItB d h i2 b i) where
 mem:=by simp
 obj:=λi h ⟨hz,hI,⟨x,y,hO⟩,h1,h2⟩ e he=>by
  have he':e=z\/e=TI\/e=TO\/e=i1\/e=i2:=by simpa using he
  rcases he' with q | q | q | q | q
  ·subst q;exact ⟨_,hz,λv z=>nomatch z⟩
  ·subst q;exact ⟨_,hI,λv z=>nomatch z⟩
  ·subst q;exact ⟨_,hO,λv z=>nomatch z⟩
  ·subst q;exact h1.obj
  ·subst q;exact h2.obj
 keep:=λi h h' ⟨hz,hI,⟨x,y,hO⟩,h1,h2⟩ kp=>⟨kp z (by simp) _ hz,kp TI (by simp) _ hI,⟨x,y,kp TO (by simp) _ hO⟩,h1.to λo e=>kp i1 (by simp) o e,h2.to λo e=>kp i2 (by simp) o e⟩
 item:=λX eP eW eK hcalm i pins s σ H E I f ⟨hz,hI,⟨x,y,hO⟩,h1,h2⟩ go=>by
  subst eP eW eK
  obtain ⟨xs,ys,u,v,ha,hb,hu,hv⟩:=go
  obtain ⟨its,r,pl⟩:=SqB.row I ha
  obtain ⟨jts,r',pl'⟩:=SqB.row I hb
  obtain ⟨u',eu,ru⟩:=r.get hu
  obtain ⟨v',ev,rv⟩:=r'.get hv
  refine sr D hz hI hO h1 h2 pl pl' (x:=u') (y:=v') (by rw[Fj];exact eu) (by rw[Fj];exact ev) λh' o1 o2 o3 o4 o5 o6 kp =>?_
  refine ⟨_,rfl,?_⟩
  refine wpAny_letOwnedTupleGo_zip o1 λh2' e2 sb =>?_
  have ez:z≠s.heap.objs.size:=EY (EN hz)
  have lt:∀e∈[z,TI,TO,i1,i2],e≠s.heap.objs.size:=λe he=>by
   have he':e=z\/e=TI\/e=TO\/e=i1\/e=i2:=by simpa using he
   rcases he' with q | q | q | q | q
   ·rw[q];exact ez
   ·rw[q];exact EY (EN hI)
   ·rw[q];exact EY (EN hO)
   ·rw[q];exact EY h1.lt
   ·rw[q];exact EY h2.lt
  have kp2:∀e ob,e∉[z,TI,TO,i1,i2]->s.heap.get? e=some ob->h2'.get? e=some ob:=λe ob he eb=>by
   have n1:e≠z:=λq=>he (by simp[q])
   have n2:e≠TO:=λq=>he (by simp[q])
   have n3:e≠i1:=λq=>he (by simp[q])
   have n4:e≠i2:=λq=>he (by simp[q])
   rw[sb.2 e n1];exact kp e ob n1 n2 n3 n4 eb
  have j1:ItB c h2' i1 a (i+1):=o3.to λob eb=>by rw[sb.2 i1 D.i1z];exact eb
  have j2:ItB d h2' i2 b (i+1):=o4.to λob eb=>by rw[sb.2 i2 D.i2z];exact eb
  have jI:IsPair h2' TI (.ref i1) (.ref i2):=by
   show h2'.get? TI=_
   rw[sb.2 TI D.TIz]
   exact kp TI _ D.TIz D.TITO D.TIi1 D.TIi2 hI
  have jO:IsPair h2' TO u' v':=by
   show h2'.get? TO=_
   rw[sb.2 TO D.TOz]
   exact o2
  have tp:h2'.get? s.heap.objs.size=some { cls :=.type "tuple",data :=.seq #[u',v'] }:=by rw[sb.2 _ (Gn ez)];exact o5
  refine ⟨.ref s.heap.objs.size,upd H s.heap.objs.size (.tup [u,v]),I.i4 (ch:=[z,TI,TO,i1,i2]) f kp2 (λe he =>?_) (EI _) ?_,rfl,⟨s.heap.objs.size,u,v,I.hok.fresh (EI _),rfl,rfl,λzs hy =>?_,λzs hy =>?_⟩,⟨e2,jI,⟨_,_,jO⟩,j1,j2⟩,λe he =>?_⟩
  ·have he':e=z\/e=TI\/e=TO\/e=i1\/e=i2:=by simpa using he
   rcases he' with q | q | q | q | q
   ·rw[q];exact ⟨_,e2⟩
   ·rw[q];exact ⟨_,jI⟩
   ·rw[q];exact ⟨_,jO⟩
   ·rw[q];obtain ⟨o,ho,_⟩:=j1.obj;exact ⟨o,ho⟩
   ·rw[q];obtain ⟨o,ho,_⟩:=j2.obj;exact ⟨o,ho⟩
  ·refine ⟨(by show 2<=ES;decide),[u',v'],.cons ru (.cons rv .nil),_,tp,⟨rfl,rfl⟩,_,rfl⟩
  ·rw[SqB.inj I hy ha];exact hu
  ·rw[SqB.inj I hy hb];exact hv
  ·rw[aH (lt e he)];exact (f e he).1
 done:=λX eP eW eK hcalm i pins s σ H E I f ⟨hz,hI,⟨x,y,hO⟩,h1,h2⟩ stop=>by
  subst eP eW eK
  obtain ⟨xs,ys,ha,hb,hl⟩:=stop
  obtain ⟨its,r,pl⟩:=SqB.row I ha
  obtain ⟨jts,r',pl'⟩:=SqB.row I hb
  have l:=r.length
  have l':=r'.length
  refine lQ (I.ok.hd hcalm) D hz hI hO h1 h2 pl pl' (hl.imp (λ_=>by rw[Fj];exact HU.mpr (by lia)) (λ_=>by rw[Fj];exact HU.mpr (by lia))) λh' ex=>⟨rfl,?_⟩
  exact I.xC (ch:=[z,TI,TO,i1,i2]) (h':=h') (t':=s.toks) f λe o he eb=>ex e o (λq=>he (by simp[q])) (λq=>he (by simp[q])) (λq=>he (by simp[q])) (λq=>he (by simp[q])) eb
 self:=λA i s Q E ⟨hz,_⟩ q=>wpAny_pyIter_zip hz q
def DZ (K:Ez)(c d:Bool)(ta:TA):TI:=λσ H R=>ta σ H λvs H1=>∃a b,vs=[.ref a,.ref b]/\(∃xs,SqB K c H1 a xs)/\(∃ys,SqB K d H1 b ys)/\R (ItZ K c d a b) H1
theorem qp {X:Cx}(c d:Bool){a b:Expr}{ta:TA}{p pos pos':Pos}{elts:List Expr}{k:Nat}(hg:Gl X "zip")(hm:X.mg "zip" = none)(ha:PA X [a,b] ta)(hs:FT [a,b] X.env=[(false,eval a X.env),(false,eval b X.env)]:=by rfl)(hs2:FT [b] X.env=[(false,eval b X.env)]:=by rfl) :
  PI X (.Tuple elts k pos') (.Call (.Name "zip" p) [a,b] [] pos) (DZ X.K c d ta):=by
 intro pins s σ H R I h
 refine Call_ (eO I hg hm boot_zip (GA (thn (ha pos pins s σ H _ I h) λus s1 ⟨vs,H1,I1,r1,q1⟩ =>?_) (by rw[hs,hs2]) (by rw[hs2];rfl)))
 obtain ⟨l1,l2,e,⟨xs,hx⟩,⟨ys,hy⟩,q⟩:=q1
 subst e
 cases r1 with
 | cons r rr =>
  cases rr with
  | cons r' rr =>
   cases rr
   cases r
   cases r'
   have fp:∀b∈[s1.heap.objs.size+4,s1.heap.objs.size+2,s1.heap.objs.size+3,s1.heap.objs.size,s1.heap.objs.size+1],gs X pins H1 b:=λb hb=>by
    have ge:s1.heap.objs.size<=b:=by
     simp at hb
     lia
    exact I1.wR ge (I1.hok.fresh ge)
   obtain ⟨its,rv,pl⟩:=SqB.row I1 hx
   obtain ⟨jts,rv',pl'⟩:=SqB.row I1 hy
   have D:=CT _ _ _ pl.lt pl'.lt
   refine xF pl pl' λh' hz hI hO h1 h2 kp =>?_
   have T:=xG (P:=X.prog) (w:=X.w) (K:=X.K) (elts:=elts) (k:=k) (pos:=pos') c d l1 l2 _ _ _ _ _ D
   refine T.self _ 0 _ _ _ ⟨hz,hI,⟨_,_,hO⟩,h1,h2⟩ ?_
   exact ⟨_,_,_,_,H1,rfl,I1.kept (t':=s1.toks) kp,T,⟨hz,hI,⟨_,_,hO⟩,h1,h2⟩,fp,q⟩
theorem D6 {K:Ez}{c d:Bool}{a b:Addr}{xs ys:List V}{g:TG}{tb:TS}{D:Ends}{σ:St}{H:Hp}(n:Nat)(n1:n<=xs.length)(n2:n<=ys.length)(n3:n=xs.length\/n=ys.length)(Pv:Nat->St->Hp->Prop)(h0:Pv 0 σ H)(hl:∀i σ H,i<=n->Pv i σ H->SqB K c H a xs/\SqB K d H b ys)
  (hs:∀i x y σ H T,xs[i]? = some x->ys[i]? = some y->H T=none->Pv i σ H->g (.ref T) σ (upd H T (.tup [x,y])) λσ2 H2=>tb { D with nx:=Pv (i+1),ct:=Pv (i+1),bk:=D.nx } σ2 H2) (hd:∀σ H,Pv n σ H->D.nx σ H):yT (ItZ K c d a b) g tb D σ H:=by
 refine ⟨λi m σ H=>m=n-i/\i<=n/\Pv i σ H,⟨n,by simp,FE _,h0⟩,?_⟩
 rintro i m σ H ⟨rfl,hi,p⟩
 obtain ⟨q1,q2⟩:=hl i σ H hi p
 by_cases hlt:i<n
 ·refine .inr ⟨⟨xs,ys,xs[i]'(by lia),ys[i]'(by lia),q1,q2,by simp[show i<xs.length by lia],by simp[show i<ys.length by lia]⟩,Pv (i+1),λσ' H' p'=>⟨n-(i+1),by lia,rfl,hlt,p'⟩,λx H' y =>?_⟩
  obtain ⟨T,u,v,hT,ex,eH,hu,hv⟩:=y
  subst ex eH
  exact hs i u v σ H T (hu xs q1) (hv ys q2) hT p
 ·have e:i=n:=by lia
  subst e
  exact .inl ⟨⟨xs,ys,q1,q2,n3.elim (λz =>.inl (by lia)) (λz =>.inr (by lia))⟩,hd σ H p⟩
theorem zy {K:Ez}{c d:Bool}{a b:Addr}{xs ys:List V}{k l:Nat}{tc:TT}{te:TE}{τ:St}{H:Hp}{Q:VK}(n:Nat)(n1:n<=xs.length)(n2:n<=ys.length)(n3:n=xs.length\/n=ys.length)(Pv:Nat->List V->Hp->Prop)(hkl:k≠l)(h0:Pv 0 [] H)(hz:n<=ES)
  (hl:∀i zs H,i<=n->Pv i zs H->SqB K c H a xs/\SqB K d H b ys)
  (hs:∀i x y zs H T,xs[i]? = some x->ys[i]? = some y->zs.length<=i->H T=none->Pv i zs H->DQ k l tc te τ Pv i x y zs (upd H T (.tup [x,y])))
  (hd:∀zs H,zs.length<=n->Pv n zs H->∀r,H r=none->Q (.ref r) (upd H r (.lst zs))):rC (ItZ K c d a b) (B6 K k l) tc te τ Q H:=by
 refine ⟨λi m σ zs H=>m=n-i/\i<=n/\(∀a b,(σ.set k (some a)).set l (some b)=(τ.set k (some a)).set l (some b))/\zs.length<=i/\Pv i zs H,⟨n,by simp,FE _,λ_ _=>rfl,EI _,h0⟩,?_⟩
 rintro i m σ zs H ⟨rfl,hi,hτ,hy,pv⟩
 obtain ⟨q1,q2⟩:=hl i zs H hi pv
 by_cases hlt:i<n
 ·refine .inr ⟨⟨xs,ys,xs[i]'(by lia),ys[i]'(by lia),q1,q2,by simp[show i<xs.length by lia],by simp[show i<ys.length by lia]⟩,λx H' y =>?_⟩
  obtain ⟨T,u,v,hT,ex,eH,hu,hv⟩:=y
  subst ex eH
  refine ⟨T,_,rfl,SqT.of ai,rfl,_,_,rfl,_,_,rfl,rfl,?_⟩
  rw[hτ]
  have hσ:∀a b,((((τ.set k (some u)).set l (some v)).set k (some a)).set l (some b))=(τ.set k (some a)).set l (some b):=λa b=>by
   rw[Nq _ _ (Gn hkl),Kc,Kc]
  refine hs i u v zs _ T (hu xs q1) (hv ys q2) hy hT pv _ _ (λy4 H4 p4=>⟨by lia,n-(i+1),by lia,rfl,hlt,hσ,by rw[EE,Gh];lia,p4⟩) λH3 p3=>⟨n-(i+1),by lia,rfl,hlt,hσ,by lia,p3⟩
 ·have e:i=n:=by lia
  subst e
  exact .inl ⟨⟨xs,ys,q1,q2,n3.elim (λz =>.inl (by lia)) (λz =>.inr (by lia))⟩,by lia,hd zs H hy pv⟩
section
variable  {X:Cx}
theorem zA {K:Ez}{tg l:Expr}{tl:TE}(hl:PE X l tl)(h:X.K=K:=by rfl):PI X tg l (BZ K tl):=by subst h;exact bp hl
end
section
variable  {X:Cx}
theorem ph:DC X (λo i H Q=>∃(p:Addr) (xs:List V) (k:Nat) (v:V),o = .ref p/\i = .int k/\SqL X.K H p xs/\xs[k]? = some v/\Q v H):=by
 intro pins s σ H o i ov iv Q I ro ri h
 obtain ⟨p,xs,k,v,rfl,rfl,hq,he,q⟩:=h
 cases (show ov=E2 p from ro)
 obtain ⟨t,rfl⟩:=(show ∃t,iv=GO k t from ri)
 obtain ⟨its,r,pl,hz⟩:=I.list hq
 obtain ⟨w,ew,rw'⟩:=r.get he
 have hk:k<xs.length:=(EJ.mp he).1
 have hn:=kq
 exact wpAny_getItem_list pl.isList (by lia) (by lia) (by simpa using ew) ⟨v,H,I,rw',q⟩
end
end L2
namespace L2.RvT
open PySem PyProof.Rows
open Sem (wp)
theorem kF:Manifest.owners.lookup (String.ofList ['d', 'e', 's', 'r', 'e', 'v', 'e', 'r'].reverse)=some Manifest.sig_reversed:=by kernel_rfl
theorem slot_next:Slot "reversed" "__next__" "reversed.__next__" :=
 .of (owner := "reversed") (n := "__next__") (by rw[Ig,G6];kernel_rfl) (by decide +kernel) (by decide +kernel) (by decide +kernel)
  (by first | exact .inl (by decide +kernel) | exact .inr (by decide +kernel)) (by rw[HA];kernel_rfl)
theorem entry_next:entryFor table "reversed.__next__" = some Builtin.«reversed.__next__» := KW (by kernel_rfl)
theorem args_next (a:EB):argsOk "reversed.__next__" ⟨[a],[]⟩:=by
 unfold argsOk;rw[Mc (id := "reversed.__next__") (n:=['_', '_', 't', 'x', 'e', 'n', '_', '_']) (o:=['d', 'e', 's', 'r', 'e', 'v', 'e', 'r']) (by kernel_rfl) kF];kernel_rfl
theorem pj:Slot "reversed" "__iter__" "reversed.__iter__" :=
 .of (owner := "reversed") (n := "__iter__") (by rw[Ig,G6];kernel_rfl) (by decide +kernel) (by decide +kernel) (by decide +kernel)
  (by first | exact .inl (by decide +kernel) | exact .inr (by decide +kernel)) (by rw[HA];kernel_rfl)
theorem xH (a:EB):argsOk "reversed.__iter__" ⟨[a],[]⟩:=by
 unfold argsOk;rw[Mc (id := "reversed.__iter__") (n:=['_', '_', 'r', 'e', 't', 'i', '_', '_']) (o:=['d', 'e', 's', 'r', 'e', 'v', 'e', 'r']) (by kernel_rfl) kF];kernel_rfl
theorem ur:entryFor table "reversed.__iter__" = some Builtin.«dict_keyiterator.__iter__» :=
 entryFor_alias (id' := "dict_keyiterator.__iter__") (by kernel_rfl) (by first | rfl | decide +kernel | (unfold String.splitOn;simp +decide [String.splitOnAux])) (by decide +kernel) (by kernel_rfl)
theorem CU:typeLookup (.type "tuple") "__reversed__" = pure none:=by rw[Ig,G6];kernel_rfl
theorem CV:typeLookup (.type "reversed") "__len__" = pure none:=by rw[Ig,G6];kernel_rfl
theorem sv:typeLookup (.type "reversed") "__length_hint__" = pure (some (.builtin "reversed.__length_hint__")):=by rw[Ig,G6];kernel_rfl
theorem sub_self:isSubtype (.type "reversed") (.type "reversed")=pure true:=by rw[HA];kernel_rfl
theorem zC:isSubtype (.type "tuple") (.type "dict")=pure false:=by rw[HA];kernel_rfl
theorem xI:Slot "reversed" "__init__" "object.__init__" :=
 .of (owner := "object") (n := "__init__") (by rw[Ig,G6];kernel_rfl) (by decide +kernel) (by decide +kernel) (by decide +kernel)
  (by first | exact .inl (by decide +kernel) | exact .inr (by decide +kernel)) (by rw[HA];kernel_rfl)
theorem called:TypeCalled "reversed" "reversed.__new__" "object.__init__" :=
 ⟨by decide +kernel,by decide +kernel,⟨_,_,Lw⟩,madeBy_type Lw PySem.F.lookup_reversed_new (by decide +kernel),by decide +kernel,by rw[HA];kernel_rfl,xI⟩
def rvO (t:Addr)(i:Int):Obj:={ cls :=.type "reversed",data :=.fields #[.ref t,Ih i] }
def iQ (h:Heap)(a t:Addr)(i:Int):Prop:=∃o,h.get? a=some o/\o.cls = .type "reversed" /\ o.data = .fields #[.ref t,Ih i]
section
variable  {prog:EV}{w:Fm}{A:FN}{E:EB->EG->Prop}{s:EG}
theorem iQ.typeIs {a t:Addr}{i:Int}(x:iQ s.heap a t i):s.TypeIs (.ref a) "reversed" := let ⟨o,ho,hc,_⟩:=x;⟨o,ho,hc⟩
theorem iQ.at {h h':Heap}{a t:Addr}{i:Int}(x:iQ h a t i)(e:∀o,h.get? a=some o->h'.get? a=some o):iQ h' a t i:=let ⟨o,ho,r⟩:=x;⟨o,e _ ho,r⟩
theorem sx {h h':Heap}{a:Addr}{its:Array EB}(x:IsTup h a its)(e:∀o,h.get? a=some o->h'.get? a=some o):IsTup h' a its:=let ⟨o,ho,r⟩:=x;⟨o,e _ ho,r⟩
theorem xJ (t:Addr)(its:Array EB)(hz:(its.size:Int)<2 ^ 63) :
  Meets (Builtin.«reversed.__new__» ⟨[.type "reversed",.ref t],[]⟩) (λ_ R s=>IsTup s.heap t its/\R (.ok (.ret (.ref s.heap.objs.size))) { s with heap:=s.heap.push (rvO t ((its.size:Int)-1)),toks:=s.toks+1+1 }) :=
 .of_wp λprog w A R s h=>by
  obtain ⟨ht,h⟩:=h
  unfold Builtin.«reversed.__new__»
  refine Ew (GP (newClass_reversed _) ?_)
  try dsimp only
  refine Ew (GP (a:=()) (by first | rfl | kernel_rfl) ?_)
  refine Ew (GP (a:=()) (by first | rfl | kernel_rfl) ?_)
  try dsimp only
  refine Ew (HF ht.typeIs CU ?_)
  try dsimp only
  refine Ew ?_
  show E4 _ _ (isInstance (.ref t) (.type "dict") >>= _) _ _ s
  refine Ew (HK (T := "tuple") (b:=false) ht.typeIs zC ?_)
  refine GY (λhab=>absurd hab (by decide)) (λ_ =>?_)
  refine Ew (HF ht.typeIs FU.lookup ?_)
  refine GY (λ_=>EC ?_) (λhab=>absurd (by decide +kernel) hab)
  refine GY (λhab=>absurd hab (by decide)) (λ_ =>?_)
  refine Ew (M7 ht hz ?_)
  refine Ew (GP (a:=some (its.size:Int)) rfl ?_)
  refine Ew ?_
  show E4 _ _ (newObj (.type "reversed") (.fields #[.ref t,Ih ((its.size:Int)-1)])) _ _ _
  exact Ft (EC ⟨_,rfl,h⟩)
theorem zD {t:Addr}{its:Array EB}{Q:EB->EG->Prop}(ht:IsTup s.heap t its)(hz:(its.size:Int)<2 ^ 63)
  (h:Q (.ref s.heap.objs.size) { s with heap:=s.heap.push (rvO t ((its.size:Int)-1)),toks:=s.toks+1+1 }):E4 (Fq prog w) A (call (.type "reversed") [.ref t]) Q E s:=by
 refine Lj called (by decide) (PySem.F.typeCall_reversed_1 _) (PySem.F.newCall_reversed_1 _) (λobj=>J9 obj _) PySem.F.entry_reversed_new (xJ t its hz) ⟨ht,?_⟩
 exact ⟨⟨_,EK _ rfl,rfl⟩,h⟩
theorem next_item {I t:Addr}{i:Nat}{its:Array EB}{x:EB}{Q:Option EB->EG->Prop}(hit:iQ s.heap I t (i:Int))(ht:IsTup s.heap t its)(hx:its[i]? = some x)(hi:(i:Int)<2 ^ 63)
  (hQ:∀h' tk,iQ h' I t ((i:Int)-1)->Heap.SameBut I s.heap h'->Q (some x) { s with heap:=h',toks:=tk }):E4 (Fq prog w) A (pyNext (.ref I)) Q E s:=by
 obtain ⟨o,ho,hc,hd⟩:=id hit
 unfold pyNext
 refine Ew (Hz (F7 (name:=Str.ofString "__next__") hit.typeIs slot_next (FX slot_next hit.typeIs entry_next ?_ (args_next _))))
 unfold Builtin.«reversed.__next__»
 refine Ew (GP (a:=(E2 I,[])) rfl ?_)
 try dsimp only
 refine Ew (Gf ho hd (x :=.ref t) rfl ?_)
 refine Ew (Gf ho hd (x:=Ih (i:Int)) rfl ?_)
 show E4 _ _ (if (i:Int)<0 then _ else _) _ _ s
 rw[if_neg (by lia)]
 show E4 _ _ (specialOf (.ref t) "__getitem__" >>= _) _ _ s
 refine Ew (HF ht.typeIs FU.lookup ?_)
 refine GY (λhab=>absurd hab (by decide)) (λ_ =>?_)
 refine Ew (M9 ?_)
 refine Ew (Hz ?_)
 refine PyProof.Rows.getItem_tuple (j:=i) ht (by lia) hi (LM (by lia) (by have:=(Array.getElem?_eq_some_iff.mp hx).1;lia)) hx ?_
 refine Ew (Gf ho hd (x:=Ih (i:Int)) rfl ?_)
 show E4 _ _ (setField (.ref I) 1 (Ih ((i:Int)-1)) >>= λ_=>ret x) _ _ _
 refine Ew (Jv ho hd (by simp) ?_)
 refine EC ⟨x,rfl,EC (hQ _ _ ?_ (IU ..))⟩
 exact ⟨_,FH _ ho (Jz (HL hd _)),(Mj ..).trans hc,by rw[HL hd];simp⟩
theorem next_end {I t:Addr}{Q:Option EB->EG->Prop}(hh:A.handled=none)(hit:iQ s.heap I t (-1))
  (hQ:∀h',Heap.ExtBut I s.heap h'->Q none { s with heap:=h' }):E4 (Fq prog w) A (pyNext (.ref I)) Q E s:=by
 obtain ⟨o,ho,hc,hd⟩:=id hit
 unfold pyNext
 refine Ew (Hz (F7 (name:=Str.ofString "__next__") hit.typeIs slot_next (FX slot_next hit.typeIs entry_next ?_ (args_next _))))
 unfold Builtin.«reversed.__next__»
 refine Ew (GP (a:=(E2 I,[])) rfl ?_)
 try dsimp only
 refine Ew (Gf ho hd (x :=.ref t) rfl ?_)
 refine Ew (Gf ho hd (x:=Ih (-1)) rfl ?_)
 show E4 _ _ (if (-1:Int)<0 then _ else _) _ _ s
 rw[if_pos (by decide)]
 refine Ew (HC ?_)
 refine Ew ?_
 show E4 _ _ (setField (.ref I) 1 (Ih (-1)) >>= λ_=>setField (.ref I) 0 .none) _ _ s
 refine Ew (Jv ho hd (by simp) ?_)
 have h1:=FH (Obj.mapFields λfs=>fs.setIfInBounds 1 (Ih (-1))) ho (Jz (HL hd _))
 refine Jv h1 (HL hd _) (by simp) ?_
 refine Ew ?_
 show E4 _ _ (newExc (.type "StopIteration") [] >>= _) _ _ _
 refine Ew ?_
 simp only[newExc,newTuple]
 refine Ew (Ft ?_ (by size_fits))
 refine Ew (m:=firstArgMember _ _) (GP (a:=GV) (by first | rfl | (simp only[firstArgMember];rfl)) ?_)
 refine Ft ?_ (by size_fits)
 simp only[raiseNew]
 refine Ew (L9 ?_)
 first | rw[show A.in1.handled=none from hh] | rw[hh]
 refine Ew (EC (M8 ?_))
 refine Ew (HK (T := "StopIteration") (b:=true) ⟨_,EK _ rfl,rfl⟩ Kk ?_)
 refine EC (hQ _ ?_)
 refine MP (MP (λb o hb eo =>?_) _) _
 exact (Fd _ _ (Gn hb)).trans ((Fd _ _ (Gn hb)).trans eo)
theorem vx {I t:Addr}{i:Int}{Q:EB->EG->Prop}(hit:iQ s.heap I t i)(h:Q (.ref I) s):E4 (Fq prog w) A (pyIter (.ref I)) Q E s:=by
 refine Js hit.typeIs pj (FX pj hit.typeIs ur ?_ (xH _))
 show E4 _ _ (ret (.ref I)) _ _ s
 exact EC ⟨_,rfl, "reversed",_,hit.typeIs,slot_next.lookup,h⟩
theorem pk:Slot "reversed" "__length_hint__" "reversed.__length_hint__" :=
 .of (owner := "reversed") (n := "__length_hint__") sv (by decide +kernel) (by decide +kernel) (by decide +kernel)
  (by first | exact .inl (by decide +kernel) | exact .inr (by decide +kernel)) sub_self
theorem uw:entryFor table "reversed.__length_hint__" = some Builtin.«reversed.__length_hint__» := KW (by kernel_rfl)
theorem xK (a:EB):argsOk "reversed.__length_hint__" ⟨[a],[]⟩:=by
 unfold argsOk;rw[Mc (id := "reversed.__length_hint__") (n:=['_', '_', 't', 'n', 'i', 'h', '_', 'h', 't', 'g', 'n', 'e', 'l', '_', '_']) (o:=['d', 'e', 's', 'r', 'e', 'v', 'e', 'r']) (by kernel_rfl) kF];kernel_rfl
theorem xM {I t:Addr}{its:Array EB}{Q:EB->EG->Prop}(hit:iQ s.heap I t ((its.size:Int)-1))(ht:IsTup s.heap t its)(hz:(its.size:Int)<2 ^ 63)
  (h:∀u tk,Q (.int its.size u) { s with toks:=tk }):E4 (Fq prog w) A (call (.builtin "reversed.__length_hint__") [.ref I]) Q E s:=by
 obtain ⟨o,ho,hc,hd⟩:=id hit
 refine FX pk hit.typeIs uw ?_ (xK _)
 unfold Builtin.«reversed.__length_hint__»
 refine Ew (GP (a:=E2 I) rfl ?_)
 refine Ew (Gf ho hd (x :=.ref t) rfl ?_)
 refine GY (λhab=>absurd hab (show ¬ (false=true) from EO)) (λ_ =>?_)
 refine Ew (M7 ht hz ?_)
 refine Ew (GP (a:=some (its.size:Int)) rfl ?_)
 refine Ew (Gf ho hd (x:=Ih ((its.size:Int)-1)) rfl ?_)
 show E4 _ _ (if (its.size:Int)<((its.size:Int)-1)+1 then _ else retInt (((its.size:Int)-1)+1)) _ _ _
 rw[if_neg (by lia),show ((its.size:Int)-1)+1=its.size by lia]
 exact Ew (M9 (EC ⟨_,rfl,h _ _⟩))
theorem Bo {I t:Addr}{its:Array EB}{Q:Bool->EG->Prop}(hit:iQ s.heap I t ((its.size:Int)-1))(ht:IsTup s.heap t its)(hz:its.size<=2 ^ 24)(h:∀b tk,Q b { s with toks:=tk }):E4 (Fq prog w) A (HG (.ref I)) Q E s:=by
 unfold HG
 refine Ew (HF hit.typeIs CV ?_)
 wp_delta
 refine Ew (HF hit.typeIs sv ?_)
 generalize hid:("reversed.__length_hint__" : String)=id0
 wp_delta
 rw[show splitId id0=some ("reversed", "__length_hint__") from by subst hid;decide +kernel]
 subst hid
 refine Ew (HK (T := "reversed") (b:=true) hit.typeIs sub_self ?_)
 refine GY (λhab=>absurd hab (by decide)) (λ_ =>?_)
 refine GY (λhab=>absurd hab (by decide +kernel)) (λ_ =>?_)
 refine Ew (HC ?_)
 refine Ew (GP (pk.bind _) ?_)
 refine Ew (Hz (xM hit ht (by lia) λu tk =>?_))
 show E4 _ A (asInt? (.int (its.size:Int) u) >>= _) Q E _
 have ea:asInt? (GO (its.size:Int) u)=pure (some (its.size:Int)):=rfl
 rw[ea,pure_bind]
 generalize hn:(its.size:Int)=n
 dsimp only
 refine GY (λhab=>absurd hab ?_) (λ_ =>?_)
 ·unfold Builtin.List.listFitsIndex;simp;lia
 refine GY (λhab=>absurd hab (by lia)) (λ_ =>?_)
 refine GY (λhab=>absurd hab ?_) (λ_ =>?_)
 ·rw[L2.mL (by rw[HW];lia)];exact EO
 exact EC (h _ _)
end
theorem walk {prog:EV}{w:Fm}{A:FN}(hh:A.handled=none)(I t:Addr)(hne:t≠I)(its:Array EB)(hz:(its.size:Int)<2 ^ 63) :
  Walks prog w A I [I,t] [I] its.size (λi v=>its[its.size-1-i]? = some v) (λi h=>i<=its.size/\iQ h I t ((its.size:Int)-1-(i:Int))/\IsTup h t its) where
 sub:=λb hb=>by simp at hb;simp[hb]
 frame:=λ_ _ _ x hk=>⟨x.1,x.2.1.at λo e=>hk I (by simp) o e,sx x.2.2 λo e=>hk t (by simp) o e⟩
 item:=λi s Q E hi x hQ=>by
  have e:(its.size:Int)-1-(i:Int)=((its.size-1-i:Nat):Int):=by omega
  have hit:=x.2.1
  rw[e] at hit
  have hx:its[its.size-1-i]? = some (its[its.size-1-i]'(by omega)):=Fe (by omega)
  refine next_item hit x.2.2 hx (by omega) λh' tk hit' hs' =>?_
  have e2:((its.size-1-i:Nat):Int)-1=(its.size:Int)-1-((i+1:Nat):Int):=by omega
  rw[e2] at hit'
  exact hQ _ h' tk hx ⟨hi,hit',sx x.2.2 λo eo=>(hs'.2 t hne).trans eo⟩ λb o hb eo=>hs'.extBut b o (λh=>hb (by simp[h])) eo
 done:=λs Q E x hQ=>by
  have e:(its.size:Int)-1-(its.size:Int) = -1:=by omega
  have hit:=x.2.1
  rw[e] at hit
  exact next_end hh hit λh' he'=>hQ h' s.toks λb o hb eo=>he' b o (λh=>hb (by simp[h])) eo
 self:=λ_ _ _ _ x hQ=>vx x.2.1 hQ
section
variable  {prog:EV}{w:Fm}{A:FN}{E:EB->EG->Prop}{s:EG}
theorem xN {R:Result->EG->Prop}{I t:Addr}{items:Array EB}(hh:A.handled=none)(hit:iQ s.heap I t ((items.size:Int)-1))(hl:IsTup s.heap t items)(hne:t≠I)(hlen:items.size<=2 ^ 24)
  (S:Addr) (hSI:S≠I) (hSl:S≠t) (res:EB) (c₀:Nat) (hS:s.heap.get? S=some { cls :=.type "list",data :=.seq #[] c₀ })
  (hR:∀h' tk acc' c',(∀b o,b≠S->b≠I->s.heap.get? b=some o->h'.get? b=some o)->h'.get? S=some { cls :=.type "list",dict:=none,data :=.seq acc' c',slots := #[] } →
   ItemsOf (λi v=>items[items.size-1-i]? = some v) acc' items.size->R (.ok (.ret res)) { s with heap:=h',toks:=tk }) :
  E4 (Fq prog w) A.in1 (Gr (.ref S) (.ref I) res)
   (λfin s'=>match fin with | .done f=>R (.ok f) s' | .again c'=>c'.quiet=true/\IW (Fq prog w) A c' R s') (λe s'=>R (.error e) s') s:=by
 have hSf:S∉[I,t]:=λhm=>by
  rcases EW.mp hm with e | hm
  ·exact hSI e
  ·exact hSl (ED.mp hm)
 have W:=(walk (prog:=prog) (w:=w) (A:=A.in1) hh I t hne items (by omega)).toS
 unfold Gr
 refine Ew (HR (T := "reversed") hit.typeIs ?_)
 have h1:Ii (.ref S) (.ref I)=false:=by simp[Ii,hSI]
 have h2:(Hk "reversed" == Hk "list")=false:=by decide +kernel
 have h3:(Hk "reversed" == Hk "tuple")=false:=by decide +kernel
 simp only[h1,h2,h3,Nr,Fc,if_false]
 refine Ew (vx hit ?_)
 refine Ew (F0 (Bo hit hl hlen λb tk =>?_))
 refine GY (λ_ =>?_) (λ_=>EC ⟨Gj Kj _,?_⟩)
 ·refine Ew (HC ?_)
  refine Ew ?_
  show E4 _ A.in1 (updateSeq S (·.push .none) >>= λ_=>updateSeq S (·.pop)) _ _ _
  refine Ew (GX hS rfl ?_)
  have hS₂:=FH (He (·.push GV)) hS rfl
  refine GX (hz:=by seq_fits) hS₂ rfl ?_
  have hS₃:=FH (He (·.pop)) hS₂ rfl
  have oth:∀b o,b≠S->s.heap.get? b=some o->((s.heap.update S (He (·.push GV))).update S (He (·.pop))).get? b=some o :=
   λb o hb e=>(Fd _ _ (Gn hb)).trans ((Fd _ _ (Gn hb)).trans e)
  refine EC ⟨Gj Kj _,LF W (by rw[HW];omega) S hSf res items.size 0 _ _ _ rfl (FE _) ⟨FE _,by simpa using hit.at λo e=>oth I o (Gn hSI) e,sx hl λo e=>oth t o (Gn hSl) e⟩ hS₃ (ND _) λs' acc' c' hm hS' hacc =>?_⟩
  rw[Nu hm]
  refine hR s'.heap s'.toks acc' c' (λb o hb hbI e=>hm.heap b o (λhmem =>?_) (oth b o hb e)) hS' hacc
  rcases EW.mp hmem with e' | hmem
  ·exact hb e'
  ·exact hbI (ED.mp hmem)
 refine LF W (by rw[HW];omega) S hSf res items.size 0 _ #[] c₀ rfl (FE _) ⟨FE _,by simpa using hit,hl⟩ hS (ND _) λs' acc' c' hm hS' hacc =>?_
 rw[Nu hm]
 refine hR s'.heap s'.toks acc' c' (λb o hb hbI e=>hm.heap b o (λhmem =>?_) e) hS' hacc
 rcases EW.mp hmem with e' | hmem
 ·exact hb e'
 ·exact hbI (ED.mp hmem)
theorem ux {R:List EB->EG->Prop}{I t:Addr}{items:Array EB}(hh:A.handled=none)(hit:iQ s.heap I t ((items.size:Int)-1))(hl:IsTup s.heap t items)(hne:t≠I)(hlen:items.size<=2 ^ 24)
    (h:∀(h1:Heap) (tk:Nat) (vs:List EB),vs=items.toList.reverse->(∀b o,b≠I->s.heap.get? b=some o->h1.get? b=some o)->R vs { s with heap:=h1,toks:=tk }) :
    E4 (Fq prog w) A (collect (.ref I)) R E s:=by
  obtain ⟨oi,hoi,_⟩:=id hit
  obtain ⟨ol,hol,_⟩:=id hl
  unfold collect
  refine Ew (Jw (FR PySem.F.entry_proto_collect ?_))
  rw[FF PySem.F.plain_proto_collect _]
  show E4 _ A.in1 (newList [] >>= λl=>again (.builtin "list.__iadd__" ⟨[l,.ref I],[]⟩)) _ _ s
  refine Ew (Ft ?_)
  refine EC ⟨Gj KD _,FR PySem.F.entry_list_iadd ?_⟩
  rw[FF KD _]
  show E4 _ A.in1 (Gr (.ref s.heap.objs.size) (.ref I) (.ref s.heap.objs.size)) _ _ { s with heap:=s.heap.push { cls :=.type "list",data :=.seq ([]:List EB).toArray } }
  have hS0:(s.heap.push { cls :=.type "list",data :=.seq ([]:List EB).toArray }).get? s.heap.objs.size=some { cls :=.type "list",data :=.seq #[] 0 }:=EK _ rfl
  refine xN (A:=A) (R:=λres s'=>match res with
      | .ok (.ret v)=>E4 (Fq prog w) A (match v with | .ref a=>(do match (← load a).data with | .seq xs _=>pure xs.toList | _=>unsupported "internal:collect") | _=>unsupported "internal:collect") R E s'
      | .ok _=>False
      | .error e=>E e s') (s:={ s with heap:=s.heap.push { cls :=.type "list",data :=.seq ([]:List EB).toArray } }) hh (hit.at λo e=>Ey _ e) (sx hl λo e=>Ey _ e) hne hlen s.heap.objs.size (Gn (EY (EN hoi))) (Gn (EY (EN hol))) (.ref s.heap.objs.size) 0 hS0 λh' tk acc' c' kk hS' it =>?_
  show E4 _ A (load s.heap.objs.size >>= _) _ _ { s with heap:=h',toks:=tk }
  refine Ew (Mv hS' ?_)
  refine EC (h h' tk acc'.toList ?_ λb o hb e=>kk b o (EY (EN e)) hb (Ey _ e))
  refine Mk λj =>?_
  rw[FO]
  have h1:acc'.size=items.toList.length:=it.1
  by_cases hj:j<items.toList.length
  · obtain ⟨v,hv⟩:∃v,acc'[j]? = some v:=⟨acc'[j]'(by lia),Fe _⟩
    have:=it.2 j v hv
    dsimp only at this
    rw[<- FO] at this
    rw[hv,List.getElem?_reverse hj, <- this]
    rfl
  · rw[HI (by lia),Gi (by rw[Im];lia)]
theorem lR (I t:Addr)(items:Array EB)(hne:t≠I)(hn:items.size<=1000) :
  Meets (Builtin.«tuple.__new__» ⟨[.type "tuple",.ref I],[]⟩)
   (λA R s=>A.handled=none/\iQ s.heap I t ((items.size:Int)-1)/\IsTup s.heap t items/\∀(h':Heap) (tk:Nat),(∀b o',b≠I->s.heap.get? b=some o'->h'.get? b=some o')->R (.ok (.ret (.ref h'.objs.size))) { s with heap:=h'.push { cls :=.type "tuple",data :=.seq items.toList.reverse.toArray },toks:=tk }) :=
 .of_wp λprog w A R s h=>by
  obtain ⟨hp,g,d,tk,os⟩:=s;obtain ⟨hh,hr,ht,h⟩:=h
  have hsub:=sub_tuple_self
  have hinit:=init_tuple_lookup
  have hmh:=madeHere_tuple
  have hT:Shared.TypeIs ⟨hp,g,d,tk,os⟩ (.ref I) "reversed" := iQ.typeIs (s:=⟨hp,g,d,tk,os⟩) hr
  wp_walk using HR hT,ux (by simpa using hh) hr ht hne (by lia)
  rintro h' tk' vs rfl hk
  show E4 _ _ (Builtin.Tuple.tupleExact items.toList.reverse.toArray >>= λv=>ret v) _ _ _
  unfold Builtin.Tuple.tupleExact
  refine Ew (Ft ?_ (by show items.toList.reverse.toArray.size<=ES;rw[EM,Im,E3];exact small hn))
  exact EC ⟨_,rfl,h h' tk' hk⟩
end
end L2.RvT
namespace L2
open PySem PySem.Spec PyProof.Rows
section
variable  {X:Cx}
theorem xO:F1 "tuple" = some (.type "tuple"):=by decide +kernel
def Bp (K:Ez)(te:TE):TE:=λσ H Q=>te σ H λx H1=>∃l xs,x = .ref l/\SqT K H1 l xs/\xs.length<=1000/\∀p,H1 p=none->Q (.ref p) (upd H1 p (.tup xs.reverse))
theorem xP {e:Expr}{te:TE}{p1 p2 pos1 pos2:Pos}(hh:X.A.handled=none)(hg1:Gl X "tuple")(hm1:X.mg "tuple" = none)(hg2:Gl X "reversed")(hm2:X.mg "reversed" = none)(he:PE X e te)
  (hs1:FT [Expr.Call (.Name "reversed" p2) [e] [] pos2] X.env=(false,eval (.Call (.Name "reversed" p2) [e] [] pos2) X.env) :: FT [] X.env:=by rfl) (hp1:(Jn pos1 (FT [] X.env)).any (·.1)=false:=by rfl)
  (hs2:FT [e] X.env=(false,eval e X.env) :: FT [] X.env:=by rfl) (hp2:(Jn pos2 (FT [] X.env)).any (·.1)=false:=by rfl) :
  PE X (.Call (.Name "tuple" p1) [.Call (.Name "reversed" p2) [e] [] pos2] [] pos1) (Bp X.K te):=by
 intro pins s σ H Q I h
 refine HQ (eO I hg1 hm1 xO ?_ (by decide) (by decide))
 refine GA ?_ hs1 hp1
 rw[hs1]
 show E4 _ _ (spliced ((false,eval (.Call (.Name "reversed" p2) [e] [] pos2) X.env) :: Jn pos1 (FT [] X.env))) _ _ s
 refine LS ?_
 refine HQ (eO I hg2 hm2 si ?_ (by decide) (by decide))
 refine GA (thn ((aa he ag hs2) pos2 pins s σ H (λvs H1=>match vs with | [x]=>∃l xs,x = .ref l/\SqT X.K H1 l xs/\xs.length<=1000/\∀p,H1 p=none->Q (.ref p) (upd H1 p (.tup xs.reverse)) | _=>False) I ?_) λus s1 ⟨vs,H1,I1,r1,q1⟩ =>?_) hs2 hp2
 ·exact h
 ·match vs,q1 with
  | [x],q1 =>
  obtain ⟨t,xs,rfl,hx,h1000,q⟩:=q1
  obtain ⟨u,rfl,ru⟩:=vals1 r1
  cases (show u=E2 t from ru)
  obtain ⟨its,r,ht,hz⟩:=I1.tuple hx
  have ll:=r.length
  have lz:its.toArray.size=xs.length:=by rw[EM];exact ll.symm
  refine RvT.zD ht (by rw[lz];omega) ?_
  refine Mh ?_
  obtain ⟨ot,hot,_⟩:=id ht
  refine Lj PySem.F.called_tuple (by decide) (PySem.F.typeCall_tuple_1 _) (PySem.F.newCall_tuple_1 _) (λobj=>J9 obj _) PySem.F.entry_tuple_new
   (RvT.lR s1.heap.objs.size t its.toArray (EY (EN hot)) (by rw[lz];exact h1000)) ⟨by simpa using hh,⟨_,EK _ rfl,rfl,rfl⟩,RvT.sx ht (λo e=>Ey _ e),λh' tk k=>⟨⟨_,EK _ rfl,rfl⟩,?_⟩⟩
  have I2:Inv X pins σ H1 { s1 with heap:=h',toks:=tk }:=I1.kept λb o e=>k b o (EY (EN e)) (Ey _ e)
  exact ⟨.ref h'.objs.size,_,I2.laid (o :=.tup xs.reverse) (λb ob q=>Ey _ q) (EI _) ⟨by rw[Im];exact small h1000,its.reverse,sj r,eM.new _ _⟩,rfl,q _ (I2.hok.fresh (EI _))⟩
theorem Bq {k:Nat}(hr:dB k X.A):OpR X (Gw .Eq) (λx y H Q=>∃(a b:Addr) (ns ms:List Int),x = .ref a/\y = .ref b/\SqL X.K H a (ns.map V.int)/\SqL X.K H b (ms.map V.int)/\Q (.bl (decide (ns=ms))) H):=by
 intro pins s σ H x y v u Q I rx ry h
 obtain ⟨a,b,ns,ms,rfl,rfl,h1,h2,q⟩:=h
 cases (show v=E2 a from rx)
 cases (show u=E2 b from ry)
 obtain ⟨its,r1,⟨⟨c1,d1,da1,sl1⟩,n1,e1,k1,_,k3⟩,_⟩:=I.list h1
 obtain ⟨its2,r2,⟨⟨c2,d2,da2,sl2⟩,n2,e2,g1,_,g3⟩,_⟩:=I.list h2
 simp only at k1 k3 g1 g3
 subst k1 k3 g1 g3
 have l1:=r1.length
 have l2:=r2.length
 rw[Ex] at l1 l2
 have hu:=hr.un
 have hu1:X.A.units<cLine:=by lia
 by_cases hl:ns.length=ms.length
 ·refine Jm (op :=.Eq) ⟨_,e1,rfl⟩ ⟨_,e2,rfl⟩ F.slot_list_eq M1 (MQ _ _) (SeqAt.list_eqAt a b its.toArray its2.toArray n1 n2 d1 d2 sl1 sl2 (by rw[EM,EM];lia) (CS ns ms)) ⟨e1,e2,?_,?_⟩ hu1
  ·intro j h1 h2
   obtain ⟨t1,g1⟩:=intAt r1 h1
   obtain ⟨t2,g2⟩:=intAt r2 h2
   rw[g1,g2]
   exact Jf _ t1 _ t2
  ·have ez:its.toArray.size=ns.length:=by rw[EM];lia
   rw[ez,zh hl]
   exact ⟨(λz=>nomatch z),⟨.bl _,H,I,rfl,q⟩⟩
 ·have ne:ns≠ms:=λz=>hl (by rw[z])
  rw[decide_eq_false ne] at q
  refine Jm (op :=.Eq) ⟨_,e1,rfl⟩ ⟨_,e2,rfl⟩ F.slot_list_eq M1 (MQ _ _) (SeqAt.list_eq_lengthsAt a b its.toArray its2.toArray n1 n2 d1 d2 sl1 sl2 (by simp;lia)) ⟨e1,e2,?_⟩ hu1
  exact ⟨(λz=>nomatch z),⟨.bl false,H,I,rfl,q⟩⟩
theorem jS:SlR X (λx lo hi H Q=>∃a xs,x = .ref a/\H a=some (.tup xs)/\∀p2 H2,az H H2->H2 p2=some (.tup (cS xs lo hi))->Q (.ref p2) H2):=by
 intro pins s σ H x v vl vu lo hi sl Q I rx hs pl pu h
 obtain ⟨a,xs,rfl,ep,key⟩:=h
 refine Bc pins s σ H _ v vl vu lo hi sl Q I rx hs pl pu ⟨a,xs,rfl,SqT.of ep,λz=>key a H (az.refl _) ?_,λ_ p2 hp2=>key p2 _ (ak hp2 _) ai⟩
 unfold cS
 rw[z.1,z.2,Jt,Lc,FI]
 exact ep
theorem ni:OpR X (binaryOp .Add) (λx y H Q=>∃a b xs ys,x = .ref a/\y = .ref b/\H a=some (.tup xs)/\H b=some (.tup ys)/\xs.length+ys.length<=ES/\∀p H',az H H'->H' p=some (.tup (xs++ys))->Q (.ref p) H'):=by
 intro pins s σ H x y v u Q I rx ry h
 obtain ⟨a,b,xs,ys,rfl,rfl,ha,hb,hz,q⟩:=h
 exact zu pins s σ H _ _ v u Q I rx ry (vv.one ha hb hz q)
end
end L2
namespace L2.MnT
open PySem PyProof.Rows
section
variable  {prog:EV}{w:Fm}{A:FN}{E:EB->EG->Prop}{I:Addr}{fp wr:List Addr}{n:Nat}{P:Nat->EB->Prop}{St:Nat->Heap->Prop}
def Cmp (prog:EV)(w:Fm)(A:FN)(P:Nat->EB->Prop)(St:Nat->Heap->Prop)(bt:Nat->Nat->Bool):Prop :=
 ∀k i j x y (s:EG) (Q E:EB->EG->Prop),St k s.heap->P i x->P j y->Q (.bool (bt i j)) s->E4 (Fq prog w) A (richCompare .Lt x y) Q E s
abbrev Bag (S:Addr)(xs:Array EB)(c:Nat)(h:Heap):Prop:=h.get? S=some { cls :=.type "list",dict:=none,data :=.seq xs c,slots := #[] }
abbrev Kept (wr:List Addr)(S:Addr)(h h':Heap):Prop:=∀b o,b∉wr->b≠S->h.get? b=some o->h'.get? b=some o
theorem loop {R:Result->EG->Prop}(W:Walks prog w A.in1 I fp wr n P St){bt:Nat->Nat->Bool}(C:Cmp prog w A.in1 P St bt){S:Addr}(nS:S∉fp):∀(d j:Nat) (s:EG) (best:EB) (c:Nat),n=j+1+d->St (j+1) s.heap->P (argBest bt j) best->Bag S #[best,best] c s.heap →
  (∀v h' tk,P (argBest bt (n-1)) v->Kept wr S s.heap h'->R (.ok (.ret v)) { s with heap:=h',toks:=tk })->IW (Fq prog w) A (.builtin "min.loop" ⟨[.ref I,.none,.ref S],[]⟩) R s:=by
 have nw:S∉wr:=λh=>nS (W.sub _ h)
 have nm:(toString "min" ++ toString ".loop" : String) = "min.loop" := by decide
 intro d
 induction d with
 | zero =>
  intro j s best c hn st pb bg hR
  have e:j+1=n:=by lia
  rw[e] at st
  refine FR Hg ?_
  rw[FF Fy _]
  show E4 _ _ (seqItems? (.ref S) >>= _) _ _ s
  refine Ew (Gk bg rfl ?_)
  show E4 _ _ (tryCatch (pyNext (.ref I)) _ >>= _) _ _ s
  refine Ew (G7 (W.done s _ _ st λh1 tk kp =>?_))
  show E4 _ _ (updateSeq S (λ_ => #[]) >>= _) _ _ _
  refine Ew ?_
  refine GX (kp S _ nw bg) rfl (Ew (HX (EC (hR best _ tk (by rw[<- e];exact pb) ?_))))
  exact λb o nb ns eb=>(Fd _ _ (Gn ns)).trans (kp b o nb eb)
 | succ d ih =>
  intro j s best c hn st pb bg hR
  refine FR Hg ?_
  rw[FF Fy _]
  show E4 _ _ (seqItems? (.ref S) >>= _) _ _ s
  refine Ew (Gk bg rfl ?_)
  show E4 _ _ (tryCatch (pyNext (.ref I)) _ >>= _) _ _ s
  refine Ew (G7 (W.item (j+1) s _ _ (by lia) st λv h1 tk pv st1 kp =>?_))
  have bg1:=kp S _ nw bg
  show E4 _ _ (tryCatch (JJ [v,v] (richCompare .Lt v best >>= _)) _ >>= _) _ _ _
  refine Ew (G7 (F0 (Ew (C (j+1+1) (j+1) (argBest bt j) v best _ _ _ st1 pv pb ?_))))
  refine Ew (F0 (Gg ?_))
  refine Ew (HX (EC ?_))
  by_cases hb:bt (j+1) (argBest bt j)=true
  ·have ea:argBest bt (j+1)=j+1:=by simp only[argBest,hb,if_true]
   rw[hb]
   simp only[if_true]
   refine Ew ?_
   refine GX bg1 rfl (Ew (HX ?_))
   rw[nm]
   refine EC ⟨Gj Fy _,ih (j+1) _ v _ (by lia) (W.frame _ _ _ st1 λb fb o eb =>?_) (by rw[ea];exact pv) (FH _ bg1 rfl) λv2 h2 tk2 p2 k2=>hR v2 h2 tk2 p2 λb o nb ns eb=>k2 b o nb ns ?_⟩
   ·exact (Fd _ _ (λz:S=b=>nS (z ▸ fb))).trans eb
   ·exact (Fd _ _ (Gn ns)).trans (kp b o nb eb)
  ·have ea:argBest bt (j+1)=argBest bt j:=by simp only[argBest,hb];rfl
   rw[G0.mpr hb]
   simp only[Fc,if_false]
   refine Ew (HX ?_)
   rw[nm]
   exact EC ⟨Gj Fy _,ih (j+1) _ best c (by lia) st1 (by rw[ea];exact pb) bg1 λv2 h2 tk2 p2 k2=>hR v2 h2 tk2 p2 λb o nb ns eb=>k2 b o nb ns (kp b o nb eb)⟩
theorem first {R:Result->EG->Prop}(W:Walks prog w A.in1 I fp wr n P St){bt:Nat->Nat->Bool}(C:Cmp prog w A.in1 P St bt){S:Addr}(nS:S∉fp)(hn:0<n){s:EG}{c:Nat}(st:St 0 s.heap)(bg:Bag S #[] c s.heap)
  (hR:∀v h' tk,P (argBest bt (n-1)) v->Kept wr S s.heap h'->R (.ok (.ret v)) { s with heap:=h',toks:=tk }):IW (Fq prog w) A (.builtin "min.loop" ⟨[.ref I,.none,.ref S],[]⟩) R s:=by
 have nw:S∉wr:=λh=>nS (W.sub _ h)
 have nm:(toString "min" ++ toString ".loop" : String) = "min.loop" := by decide
 refine FR Hg ?_
 rw[FF Fy _]
 show E4 _ _ (seqItems? (.ref S) >>= _) _ _ s
 refine Ew (Gk bg rfl ?_)
 show E4 _ _ (tryCatch (pyNext (.ref I)) _ >>= _) _ _ s
 refine Ew (G7 (W.item 0 s _ _ hn st λv h1 tk pv st1 kp =>?_))
 have bg1:=kp S _ nw bg
 show E4 _ _ (updateSeq S (λ_ => #[v,v]) >>= _) _ _ _
 refine Ew ?_
 refine GX bg1 rfl ?_
 rw[nm]
 refine EC ⟨Gj Fy _,loop W C nS (n-1) 0 _ v _ (by lia) (W.frame _ _ _ st1 λb fb o eb =>?_) pv (FH _ bg1 rfl) λv2 h2 tk2 p2 k2=>hR v2 h2 tk2 p2 λb o nb ns eb=>k2 b o nb ns ?_⟩
 ·exact (Fd _ _ (λz:S=b=>nS (z ▸ fb))).trans eb
 ·exact (Fd _ _ (Gn ns)).trans (kp b o nb eb)
def Goes (prog:EV)(w:Fm)(A:FN)(Q:EB->EG->Prop)(it:EB)(s:EG):Prop:=∃I fp wr n P St bt,it = .ref I/\Walks prog w A.in1 I fp wr n P St/\St 0 s.heap/\(∀b∈fp,b<s.heap.objs.size)/\0<n/\Cmp prog w A.in1 P St bt ∧
 ∀v h' tk,P (argBest bt (n-1)) v->(∀b o,b∉wr->s.heap.get? b=some o->h'.get? b=some o)->Q v { s with heap:=h',toks:=tk }
theorem D7 {s:EG}{x:EB}{Q:EB->EG->Prop}(h:E4 (Fq prog w) A.in1 (pyIter x) (Goes prog w A Q) E s):E4 (Fq prog w) A (call (.builtin "min") [x]) Q E s:=by
 have nm:(toString "min" ++ toString ".loop" : String) = "min.loop" := by decide
 refine Md KQ Kr Ks (PySem.F.args_min1 _) ?_
 show E4 _ _ (Builtin.Builtins.bindParams "min" ["key", "default"] 0 ⟨[],[]⟩ >>= _) _ _ s
 refine Ew (GP (a:=[none,none]) rfl ?_)
 refine Ew (EC ?_)
 refine Ew (Hh h (λit s2 g =>?_) λ_ _ e=>e)
 obtain ⟨I,fp,wr,n,P,St,bt,rfl,W,st,hf,hn,C,hq⟩:=g
 refine Ew (Ft ?_)
 rw[nm]
 refine EC ⟨Gj Fy _,first W C (S:=s2.heap.objs.size) (λhm=>Fl _ (hf _ hm)) hn (W.frame _ _ _ st λb _ o e=>Ey _ e) (EK _ rfl) λv h' tk pv kp =>?_⟩
 exact hq v h' tk pv λb o nb e=>kp b o nb (EY (EN e)) (Ey _ e)
theorem call2 {s:EG}{a b:EB}{Q:EB->EG->Prop}(h:E4 (Fq prog w) A.in1 (pyIter (.ref s.heap.objs.size)) (Goes prog w A Q) E { s with heap:=s.heap.push { cls :=.type "tuple",data :=.seq #[a,b] } }):E4 (Fq prog w) A (call (.builtin "min") [a,b]) Q E s:=by
 have nm:(toString "min" ++ toString ".loop" : String) = "min.loop" := by decide
 refine Md KQ Kr Ks (PySem.F.args_min2 _ _) ?_
 show E4 _ _ (Builtin.Builtins.bindParams "min" ["key", "default"] 0 ⟨[],[]⟩ >>= _) _ _ s
 refine Ew (GP (a:=[none,none]) rfl ?_)
 show E4 _ _ (newTuple [a,b] >>= _) _ _ s
 refine Ew (Ft ?_)
 refine Ew (Hh h (λit s2 g =>?_) λ_ _ e=>e)
 obtain ⟨I,fp,wr,n,P,St,bt,rfl,W,st,hf,hn,C,hq⟩:=g
 refine Ew (Ft ?_)
 rw[nm]
 refine EC ⟨Gj Fy _,first W C (S:=s2.heap.objs.size) (λhm=>Fl _ (hf _ hm)) hn (W.frame _ _ _ st λb _ o e=>Ey _ e) (EK _ rfl) λv h' tk pv kp =>?_⟩
 exact hq v h' tk pv λb o nb e=>kp b o nb (EY (EN e)) (Ey _ e)
def TI (h:Heap)(t:Addr×List Int):Prop:=∃its:Array EB,IsTup h t.1 its/\Hj its.toList t.2
theorem TI.at {h h':Heap}{t:Addr×List Int}(x:TI h t)(e:∀o,h.get? t.1=some o->h'.get? t.1=some o):TI h' t:=let ⟨its,⟨o,ho,r⟩,y⟩:=x;⟨its,⟨o,e o ho,r⟩,y⟩
theorem more (W:Walks prog w A I fp wr n P St)(ts:List (Addr×List Int))(nw:∀t∈ts,t.1∉wr):Walks prog w A I (fp++ts.map (·.1)) wr n P (λi h=>St i h/\∀t∈ts,TI h t) where
 sub:=λb hb=>EU.mpr (.inl (W.sub b hb))
 frame:=λi h h' x hk=>⟨W.frame i h h' x.1 λb hb o e=>hk b (EU.mpr (.inl hb)) o e,λt ht=>(x.2 t ht).at (hk t.1 (EU.mpr (.inr (Gu (f:=(·.1)) ht))))⟩
 item:=λi s Q E hi x hQ=>W.item i s Q E hi x.1 λv h' tk pv st' kp=>hQ v h' tk pv ⟨st',λt ht=>(x.2 t ht).at λo=>kp t.1 o (nw t ht)⟩ kp
 done:=λs Q E x hQ=>W.done s Q E x.1 hQ
 self:=λi s Q E x hQ=>W.self i s Q E x.1 hQ
theorem cmp (ts:List (Addr×List Int))(hu:A.units<cLine)(hP:∀i v,P i v->∃t,ts[i]? = some t/\v = .ref t.1):Cmp prog w A P (λi h=>St i h/\∀t∈ts,TI h t) (λi j=>HT.lexLt (ts.getD i (0,[])).2 (ts.getD j (0,[])).2):=by
 intro k i j x y s Q E st hx hy h
 obtain ⟨t,et,rfl⟩:=hP i x hx
 obtain ⟨u,eu,rfl⟩:=hP j y hy
 obtain ⟨i1,p1,a1⟩:=st.2 t (EH et)
 obtain ⟨i2,p2,a2⟩:=st.2 u (EH eu)
 dsimp only at h
 rw[EF,EF,et,eu] at h
 exact HT.tP p1 p2 a1 a2 hu h
theorem best (g:Nat->List Int):∀k,(argBest (λi j=>HT.lexLt (g i) (g j)) k<=k)/\∀j,j<=k->HT.lexLt (g j) (g (argBest (λi j=>HT.lexLt (g i) (g j)) k))=false
 | 0=>⟨EI _,λj hj=>by rw[M3.mp hj];exact Srt.lex_irrefl _⟩
 | k+1=>by
  obtain ⟨l,ih⟩:=best g k
  by_cases hb:HT.lexLt (g (k+1)) (g (argBest (λi j=>HT.lexLt (g i) (g j)) k))=true
  ·have ea:argBest (λi j=>HT.lexLt (g i) (g j)) (k+1)=k+1:=by simp only[argBest,hb,if_true]
   rw[ea]
   refine ⟨EI _,λj hj =>?_⟩
   by_cases e:j=k+1
   ·rw[e];exact Srt.lex_irrefl _
   ·refine G0.mpr λz =>?_
    have:=ih j (by lia)
    rw[Srt.lex_trans _ _ _ z hb] at this
    cases this
  ·have ea:argBest (λi j=>HT.lexLt (g i) (g j)) (k+1)=argBest (λi j=>HT.lexLt (g i) (g j)) k:=by simp only[argBest,hb];rfl
   rw[ea]
   refine ⟨by lia,λj hj =>?_⟩
   by_cases e:j=k+1
   ·rw[e];exact G0.mpr hb
   ·exact ih j (by lia)
end
end L2.MnT
namespace L2
open PySem PySem.Spec PyProof.Rows
section
variable  {X:Cx}
theorem CW (hc:X.calm=true)(hu:X.A.units+8<cLine):bD X (.builtin "min") (λxs H Q=>∃(p:Addr) (ts:List (Addr×List Int)),xs=[.ref p]/\SqL X.K H p (ts.map λt =>.ref t.1)/\(∀t∈ts,SqT X.K H t.1 (t.2.map V.int))/\ts≠[]/\∀t∈ts,(∀u∈ts,HT.lexLt u.2 t.2=false)->Q (.ref t.1) H):=by
 intro pins s σ H xs us Q I r h
 obtain ⟨p,ts,rfl,hS,hT,hne,q⟩:=h
 obtain ⟨u,rfl,ru⟩:=vals1 r
 cases (show u=E2 p from ru)
 obtain ⟨its,r1,p1,_⟩:=I.list hS
 have hl:s.heap.IsList p its.toArray:=p1.isList
 have ll:=r1.length
 rw[Ex] at ll
 have hp:0<ts.length:=Gv.mpr hne
 have TIs:∀t∈ts,MnT.TI s.heap t:=λt ht=>by
  obtain ⟨i2,r2,p2,_⟩:=I.tuple (hT t ht)
  exact ⟨_,p2,intsAre_of r2⟩
 have hlt:∀t∈ts,t.1<s.heap.objs.size:=λt ht=>by
  obtain ⟨_,⟨o,ho,_⟩,_⟩:=TIs t ht
  exact EN ho
 have hpl:p<s.heap.objs.size:=by obtain ⟨_,e,_⟩:=hl;exact EN e
 have at_:∀(i:Nat) (v:EB),its.toArray[i]? = some v->∃t:Addr×List Int,ts[i]? = some t/\v=E2 t.1:=λi v hv=>by
  rw[Fj] at hv
  have hi:i<ts.length:=by rw[ll];exact (EJ.mp hv).1
  have e1:(ts.map λt=>V.ref t.1)[i]? = some (.ref ts[i].1):=by rw[ET,EA hi];rfl
  obtain ⟨w',ew,rw'⟩:=r1.get e1
  rw[ew] at hv
  exact ⟨ts[i],EA hi,(EX hv).symm.trans rw'⟩
 refine MnT.D7 (Hi hl ?_)
 refine ⟨s.heap.objs.size,_,_,its.toArray.size,_,_,_,rfl,MnT.more (Lo (A:=X.A.in1) (I.ok.hd hc) s.heap.objs.size p (EY hpl) its.toArray) ts (λt ht hm =>?_),⟨⟨⟨_,EK _ rfl,rfl,rfl⟩,hl.push _⟩,λt ht=>(TIs t ht).at λo e=>Ey _ e⟩,λb hb =>?_,by rw[EM];lia,MnT.cmp ts ?_ at_,λv h' tk pv kp =>?_⟩
 ·have:=hlt t ht
  rw[ED.mp hm] at this
  exact Fl _ this
 ·show b<(s.heap.push _).objs.size
  rw[FK]
  rcases EU.mp hb with hb | hb
  ·rcases EW.mp hb with rfl | hb
   ·exact F8 _
   ·rw[ED.mp hb];exact FV hpl
  ·obtain ⟨t,ht,rfl⟩:=E9.mp hb
   exact FV (hlt t ht)
 ·show X.A.units+_<cLine
  lia
 ·obtain ⟨t,et,rfl⟩:=at_ _ v pv
  obtain ⟨b1,b2⟩:=MnT.best (λi=>(ts.getD i (0,[])).2) (its.toArray.size-1)
  have kept:∀b o,s.heap.get? b=some o->h'.get? b=some o:=λb o e=>kp b o (λhm=>by
   have:=EN e
   rw[ED.mp hm] at this
   exact Fl _ this) (Ey _ e)
  refine ⟨.ref t.1,H,I.kept kept,rfl,q t (EH et) λu hu' =>?_⟩
  obtain ⟨j,hj,eu⟩:=HE hu'
  have:=b2 j (by rw[EM];lia)
  rw[EF,EF,et,EA hj,eu] at this
  exact this
theorem uy (hc:X.calm=true)(hu:X.A.units+8<cLine):bD X (.builtin "min") (λxs H Q=>∃(a b:Addr) (ns ms:List Int),xs=[.ref a,.ref b]/\SqT X.K H a (ns.map V.int)/\SqT X.K H b (ms.map V.int)/\(HT.lexLt ms ns=true->Q (.ref b) H)/\(HT.lexLt ms ns=false->Q (.ref a) H)):=by
 intro pins s σ H xs us Q I r h
 obtain ⟨a,b,ns,ms,rfl,ha,hb,q1,q2⟩:=h
 obtain ⟨u,v,rfl,ru,rv⟩:=vals2 r
 cases (show u=E2 a from ru)
 cases (show v=E2 b from rv)
 have TIs:∀t∈[(a,ns),(b,ms)],MnT.TI s.heap t:=λt ht=>by
  rcases EW.mp ht with rfl | ht
  ·obtain ⟨i2,r2,p2,_⟩:=I.tuple ha
   exact ⟨_,p2,intsAre_of r2⟩
  ·rw[ED.mp ht]
   obtain ⟨i2,r2,p2,_⟩:=I.tuple hb
   exact ⟨_,p2,intsAre_of r2⟩
 have hlt:∀t∈[(a,ns),(b,ms)],t.1<s.heap.objs.size:=λt ht=>by
  obtain ⟨_,⟨o,ho,_⟩,_⟩:=TIs t ht
  exact EN ho
 have hT:(s.heap.push { cls :=.type "tuple",data :=.seq #[.ref a,.ref b] }).IsTuple s.heap.objs.size #[.ref a,.ref b]:=⟨_,EK _ rfl,rfl,0,rfl⟩
 have hz:(s.heap.push { cls :=.type "tuple",data :=.seq #[.ref a,.ref b] }).objs.size=s.heap.objs.size+1:=FK ..
 have at_:∀(i:Nat) (v:EB),(#[.ref a,.ref b]:Array EB)[i]? = some v->∃t:Addr×List Int,[(a,ns),(b,ms)][i]? = some t/\v=E2 t.1:=λi v hv=>by
  match i,hv with
  | 0,hv=>exact ⟨_,rfl,(EX hv).symm⟩
  | 1,hv=>exact ⟨_,rfl,(EX hv).symm⟩
  | i+2,hv=>simp at hv
 refine MnT.call2 (GS hT ?_)
 refine ⟨_,_,_,_,_,_,_,rfl,MnT.more (KA (A:=X.A.in1) (I.ok.hd hc) _ s.heap.objs.size (by rw[hz];exact EY (F8 _)) #[.ref a,.ref b]) [(a,ns),(b,ms)] (λt ht hm =>?_),⟨⟨⟨_,EK _ rfl,rfl,rfl⟩,hT.push _⟩,λt ht=>(TIs t ht).at λo e=>Ey _ (Ey _ e)⟩,λc hc' =>?_,Nat.zero_lt_two,MnT.cmp [(a,ns),(b,ms)] ?_ at_,λv h' tk pv kp =>?_⟩
 ·have:=hlt t ht
  rw[ED.mp hm,hz] at this
  exact Fl _ (IJ this)
 ·show c<((s.heap.push _).push _).objs.size
  rw[FK,hz]
  rcases EU.mp hc' with hc' | hc'
  ·rcases EW.mp hc' with rfl | hc'
   ·rw[hz];exact F8 _
   ·rw[ED.mp hc'];exact FV (F8 _)
  ·obtain ⟨t,ht,rfl⟩:=E9.mp hc'
   exact FV (FV (hlt t ht))
 ·show X.A.units+_<cLine
  lia
 ·have kept:∀b o,s.heap.get? b=some o->h'.get? b=some o:=λb o e=>kp b o (λhm=>by
   have:=EN e
   rw[ED.mp hm,hz] at this
   exact Fl _ (IJ this)) (Ey _ (Ey _ e))
  by_cases z:HT.lexLt ms ns=true
  ·have e:argBest (λi j=>HT.lexLt ([(a,ns),(b,ms)].getD i (0,[])).2 ([(a,ns),(b,ms)].getD j (0,[])).2) 1=1:=by
    show (if HT.lexLt ms ns=true then 1 else 0)=1
    rw[if_pos z]
   rw[show (#[E2 a,E2 b]:Array EB).size-1=1 from rfl,e] at pv
   have pv:=(EX pv).symm
   exact ⟨.ref b,H,I.kept kept,pv,q1 z⟩
  ·have e:argBest (λi j=>HT.lexLt ([(a,ns),(b,ms)].getD i (0,[])).2 ([(a,ns),(b,ms)].getD j (0,[])).2) 1=0:=by
    show (if HT.lexLt ms ns=true then 1 else 0)=0
    rw[if_neg z]
   rw[show (#[E2 a,E2 b]:Array EB).size-1=1 from rfl,e] at pv
   have pv:=(EX pv).symm
   exact ⟨.ref a,H,I.kept kept,pv,q2 (G0.mpr z)⟩
end
section
variable  {X:Cx}
theorem uz (hc:X.calm=true):bD X (.builtin "min") (λxs H Q=>∃(a:Addr) (ns:List Int),xs=[.ref a]/\SqT X.K H a (ns.map V.int)/\ns≠[]/\∀M:Int,M∈ns->(∀b∈ns,M<=b)->Q (.int M) H):=by
 intro pins s σ H xs us Q I r h
 obtain ⟨a,ns,rfl,hS,hne,q⟩:=h
 obtain ⟨u,rfl,ru⟩:=vals1 r
 cases (show u=E2 a from ru)
 obtain ⟨its,r1,p1,_⟩:=I.tuple hS
 obtain ⟨ps,e2,e3⟩:=eA (intsAre_of r1)
 have ei:its.toArray=Hd ps.toArray:=by rw[e2];simp[Hd]
 have hT:s.heap.IsTuple a (Hd ps.toArray):=by
  obtain ⟨o,ho,hc',n,hd⟩:=p1
  exact ⟨o,ho,hc',n,by rw[<- ei];exact hd⟩
 have hz:ps.toArray.size=ns.length:=by rw[EM, <- e3,Ex]
 have hp:0<ns.length:=Gv.mpr hne
 have ht:ps.toArray.toList.map (·.1)=ns:=e3
 have hal:a<s.heap.objs.size:=by obtain ⟨o,ho,_⟩:=p1;exact EN ho
 refine call_min_walk (GS hT ?_)
 refine ⟨_,[_,a],[_],_,_,_,_,rfl,KA (A:=X.A.in1) (I.ok.hd hc) _ a (EY hal) (Hd ps.toArray),⟨⟨_,EK _ rfl,rfl,rfl⟩,hT.push _⟩,λc hc' =>?_,by simp only[Hd,FL];lia,Nt (numAt ps.toArray) (λ_ _=>KN),λv h' tk hv hk =>?_⟩
 ·show c<(s.heap.push _).objs.size
  rw[FK]
  rcases EW.mp hc' with rfl | hc'
  ·exact F8 _
  ·rw[ED.mp hc'];exact FV hal
 ·have k:∀b o,s.heap.get? b=some o->h'.get? b=some o:=λb o e=>hk b o (λhm=>by
   have:=EN e
   rw[ED.mp hm] at this
   exact Fl _ this) (Ey _ e)
  have hsz:(Hd ps.toArray).size=ns.length:=by simp only[Hd,FL];exact hz
  rw[hsz] at hv
  obtain ⟨t,rfl⟩:=KN hv
  obtain ⟨h1,h2⟩:=argBest_lt (numAt ps.toArray) (ns.length-1)
  refine ⟨.int _,H,I.kept k,⟨_,rfl⟩,q _ ?_ λb hb =>?_⟩
  ·rw[KP,ht];exact zi (by lia)
  ·obtain ⟨j,hj,rfl⟩:=zj hb
   have:=h2 j (by lia)
   rw[KP,KP,ht] at this
   rw[KP,ht]
   exact this
end
open PySem PySem.Spec PyProof.Rows SeqAt
theorem oq (l:Addr)(items:Array EB)(n:Nat)(dd:Option Addr)(sl:Array (Option EB))(x:EB)(e:EB->Bool)(j:Nat)(hj:j<items.size)(hit:e items[j]=true)(hno:∀m (hm:m<items.size),m<j->e items[m]=false) :
  Meets (Builtin.«tuple.index» ⟨[.ref l,x],[]⟩)
   (λA R s=>s.heap.get? l=some { cls :=.type "tuple",dict:=dd,data :=.seq items n,slots:=sl }/\(∀y,y∈items->EqAt A.in1 s y x (e y))/\R (.ok (.ret (.int j s.toks))) { s with toks:=s.toks+1 }) :=
 .of_wp λprog w A R s h=>by
  obtain ⟨hl,he,h⟩:=h
  unfold Builtin.«tuple.index»
  refine Ew (GP (a:=(E2 l,[x])) rfl ?_)
  refine Ew (PyProof.Rows.tupleItemsOf_ (⟨_,hl,rfl,_,rfl⟩:IsTup s.heap l items) ?_)
  dsimp only
  refine Ew (EC (Ew (EC ?_)))
  rw[Ke,Lp]
  refine Ew (IT _ (λrest b s'=>s'=s/\b=(none,())/\∃i,rest=List.range' i (items.size-i)/\i<=j) _ ?_ ?_ _ _ ⟨rfl,rfl,0,?_,FE _⟩)
  ·rintro k rest b s' ⟨rfl,rfl,i,er,hi⟩
   rw[show items.size-i=(items.size-(i+1))+1 by lia,MR] at er
   injection er with e1 e2
   subst e1
   have hk:k<items.size:=by lia
   rw[Fe hk]
   refine Ew (he _ (Ml hk) prog w _ _ ?_)
   by_cases z:k=j
   ·subst z
    rw[hit]
    refine Ew (Ew (M9 (EC (EC ?_))))
    exact EC ⟨_,rfl,h⟩
   ·rw[hno k hk (by lia)]
    exact EC ⟨rfl,rfl,k+1,e2,by lia⟩
  ·rintro b s' ⟨rfl,rfl,i,er,hi⟩
   rw[show items.size-i=(items.size-(i+1))+1 by lia,MR] at er
   cases er
  ·simp[Std.Legacy.Range.size]
section
variable  {X:Cx}
theorem xQ:MtR X "tuple.index" (λx vs H Q=>∃(p:Addr) (ns:List Int) (k:Int),x = .ref p/\vs=[.int k]/\H p=some (.tup (ns.map V.int))/\k∈ns/\Q (.int (ns.idxOf k:Nat)) H):=by
 intro pins s σ H x vs v us Q I rx rv h
 obtain ⟨p,ns,k,rfl,rfl,hp,hk,q⟩:=h
 cases rx
 obtain ⟨u,rfl,⟨t,rfl⟩⟩:=vals1 rv
 obtain ⟨z,its,r,ob,e1,⟨c1,d1⟩,n,s1⟩:=(show ba X.prog X.w H s.heap p (.tup _) from I.hok p _ hp)
 have hi:Hj its ns:=intsAre_of r
 have hlen:=hi.length
 have hj:ns.idxOf k<ns.length:=G3.mpr hk
 obtain ⟨cls,dd,data,sl⟩:=ob
 simp only at c1 s1
 subst c1 s1
 refine JP Kt ⟨_,e1,rfl⟩ PySem.F.entry_tuple_index (PySem.F.args_tuple_index_2 _ _) (oq p its.toArray n dd sl (.int k t) (isInt k) (ns.idxOf k) (by simpa [hlen] using hj) ?_ ?_) ⟨e1,λy hy=>oV hi y hy,⟨.int _,H,I.tok _,⟨_,rfl⟩,q⟩⟩
 ·show isInt k its[ns.idxOf k]=true
  rw[Nw k hi _ (by omega) hj];simpa using Ji hj
 ·intro j hjs hlt
  show isInt k its[j]=false
  rw[Nw k hi j (by simpa using hjs) (by omega)]
  simpa using uq (by omega) hlt
end
end L2
namespace L2.MnT
open PySem PyProof.Rows
section
variable  {prog:EV}{w:Fm}{A:FN}{E:EB->EG->Prop}{I:Addr}{fp wr:List Addr}{n:Nat}{P:Nat->EB->Prop}{St:Nat->Heap->Prop}
abbrev fA (ts:List (Addr×List Int)):Nat->Nat->Bool:=λi j=>decide ((ts.getD i (0,[])).2.length<(ts.getD j (0,[])).2.length)
theorem zE {s:EG}{t:Addr×List Int}{Q:EB->EG->Prop}(x:TI s.heap t)(hz:t.2.length<2 ^ 63)(h:∀u tk,Q (.int t.2.length u) { s with toks:=tk }):E4 (Fq prog w) A (call (.builtin "len") [.ref t.1]) Q E s:=by
 obtain ⟨its,ht,hi⟩:=x
 have e:its.size=t.2.length:=by rw[<- hi.length,E3]
 refine M7 ht (by rw[e];lia) ?_
 rw[e]
 exact h _ _
theorem D8 {R:Result->EG->Prop}{ts:List (Addr×List Int)}{kw:List (Str×EB)}(W:Walks prog w A.in1 I fp wr n P St)(hI:∀k h,St k h->∀t∈ts,TI h t)(hP:∀i v,P i v->∃t,ts[i]? = some t/\v = .ref t.1)(hz:∀t∈ts,t.2.length<2 ^ 63){S:Addr}(nS:S∉fp):∀(d j:Nat) (s:EG) (t:Addr×List Int) (tk c:Nat),n=j+1+d->St (j+1) s.heap->ts[argBest (fA ts) j]? = some t->Bag S #[.ref t.1,.int t.2.length tk] c s.heap →
  (∀t h' tk,ts[argBest (fA ts) (n-1)]? = some t->Kept wr S s.heap h'->R (.ok (.ret (.ref t.1))) { s with heap:=h',toks:=tk })->IW (Fq prog w) A (.builtin "min.loop" ⟨[.ref I,.builtin "len",.ref S],kw⟩) R s:=by
 have nw:S∉wr:=λh=>nS (W.sub _ h)
 have nm:(toString "min" ++ toString ".loop" : String) = "min.loop" := by decide
 intro d
 induction d with
 | zero =>
  intro j s t tk c hn st et bg hR
  have e:j+1=n:=by lia
  rw[e] at st
  refine FR Hg ?_
  rw[FF Fy _]
  show E4 _ _ (seqItems? (.ref S) >>= _) _ _ s
  refine Ew (Gk bg rfl ?_)
  show E4 _ _ (tryCatch (pyNext (.ref I)) _ >>= _) _ _ s
  refine Ew (G7 (W.done s _ _ st λh1 tk kp =>?_))
  show E4 _ _ (updateSeq S (λ_ => #[]) >>= _) _ _ _
  refine Ew ?_
  refine GX (kp S _ nw bg) rfl (Ew (HX (EC (hR t _ tk (by rw[<- e];exact et) ?_))))
  exact λb o nb ns eb=>(Fd _ _ (Gn ns)).trans (kp b o nb eb)
 | succ d ih =>
  intro j s t tk c hn st et bg hR
  refine FR Hg ?_
  rw[FF Fy _]
  show E4 _ _ (seqItems? (.ref S) >>= _) _ _ s
  refine Ew (Gk bg rfl ?_)
  show E4 _ _ (tryCatch (pyNext (.ref I)) _ >>= _) _ _ s
  refine Ew (G7 (W.item (j+1) s _ _ (by lia) st λv h1 tk1 pv st1 kp =>?_))
  obtain ⟨u,eu,rfl⟩:=hP _ _ pv
  have bg1:=kp S _ nw bg
  show E4 _ _ (tryCatch (JJ [E2 u.1] (call (.builtin "len") [.ref u.1])) _ >>= _) _ _ _
  refine Ew (G7 (F0 (zE (hI _ _ st1 u (EH eu)) (hz u (EH eu)) λtu tk2 =>?_)))
  show E4 _ _ (tryCatch (JJ [E2 u.1,.int u.2.length tu] (richCompare .Lt (.int u.2.length tu) (.int t.2.length tk) >>= _)) _ >>= _) _ _ _
  refine Ew (G7 (F0 (Ew (richCompare_gives (op :=.Lt) (Lq _ _ tu) (Lq _ _ tk) PySem.F.slot_int_lt PySem.F.entry_int_lt (PySem.F.args_int_lt_2 _ _) (gives_int_lt _ _ tu tk) (λx=>nomatch x) ?_))))
  refine Ew (F0 (Gg ?_))
  refine Ew (HX (EC ?_))
  have eb':fA ts (j+1) (argBest (fA ts) j)=decide (u.2.length<t.2.length):=by
   show decide _=_
   rw[EF,EF,eu,et];rfl
  by_cases hb:u.2.length<t.2.length
  ·have ea:argBest (fA ts) (j+1)=j+1:=by
    show (if fA ts (j+1) (argBest (fA ts) j)=true then _ else _)=_
    rw[eb',if_pos (decide_eq_true hb)]
   rw[show decide ((u.2.length:Int)<(t.2.length:Int))=true from decide_eq_true (by lia)]
   simp only[if_true]
   refine Ew ?_
   refine GX bg1 rfl (Ew (HX ?_))
   rw[nm]
   refine EC ⟨Gj Fy _,ih (j+1) _ u tu _ (by lia) (W.frame _ _ _ st1 λb fb o eb =>?_) (by rw[ea];exact eu) (FH _ bg1 rfl) λv2 h2 tk2 p2 k2=>hR v2 h2 tk2 p2 λb o nb ns eb=>k2 b o nb ns ?_⟩
   ·exact (Fd _ _ (λz:S=b=>nS (z ▸ fb))).trans eb
   ·exact (Fd _ _ (Gn ns)).trans (kp b o nb eb)
  ·have ea:argBest (fA ts) (j+1)=argBest (fA ts) j:=by
    show (if fA ts (j+1) (argBest (fA ts) j)=true then _ else _)=_
    rw[eb',if_neg (by simpa using hb)]
   rw[show decide ((u.2.length:Int)<(t.2.length:Int))=false from decide_eq_false (by lia)]
   simp only[Fc,if_false]
   refine Ew (HX ?_)
   rw[nm]
   exact EC ⟨Gj Fy _,ih (j+1) _ t tk c (by lia) st1 (by rw[ea];exact et) bg1 λv2 h2 tk2 p2 k2=>hR v2 h2 tk2 p2 λb o nb ns eb=>k2 b o nb ns (kp b o nb eb)⟩
theorem CY {R:Result->EG->Prop}{ts:List (Addr×List Int)}{kn:Str}{d:EB}(W:Walks prog w A.in1 I fp wr n P St)(hI:∀k h,St k h->∀t∈ts,TI h t)(hP:∀i v,P i v->∃t,ts[i]? = some t/\v = .ref t.1)(hz:∀t∈ts,t.2.length<2 ^ 63){S:Addr}(nS:S∉fp){s:EG}{c:Nat}(st:St 0 s.heap)(bg:Bag S #[] c s.heap)
  (hR:∀v h' tk,((0<n/\∃t,ts[argBest (fA ts) (n-1)]? = some t/\v = .ref t.1)\/(n=0/\v=d))->Kept wr S s.heap h'->R (.ok (.ret v)) { s with heap:=h',toks:=tk }):IW (Fq prog w) A (.builtin "min.loop" ⟨[.ref I,.builtin "len",.ref S],[(kn,d)]⟩) R s:=by
 have nw:S∉wr:=λh=>nS (W.sub _ h)
 have nm:(toString "min" ++ toString ".loop" : String) = "min.loop" := by decide
 refine FR Hg ?_
 rw[FF Fy _]
 show E4 _ _ (seqItems? (.ref S) >>= _) _ _ s
 refine Ew (Gk bg rfl ?_)
 show E4 _ _ (tryCatch (pyNext (.ref I)) _ >>= _) _ _ s
 by_cases hn:n=0
 ·subst hn
  refine Ew (G7 (W.done s _ _ st λh1 tk kp =>?_))
  exact Ew (HC (EC (hR d h1 tk (.inr ⟨rfl,rfl⟩) λb o nb _ eb=>kp b o nb eb)))
 refine Ew (G7 (W.item 0 s _ _ (by lia) st λv h1 tk pv st1 kp =>?_))
 obtain ⟨u,eu,rfl⟩:=hP _ _ pv
 have bg1:=kp S _ nw bg
 show E4 _ _ (tryCatch (JJ [E2 u.1] (call (.builtin "len") [.ref u.1])) _ >>= _) _ _ _
 refine Ew (G7 (F0 (zE (hI _ _ st1 u (EH eu)) (hz u (EH eu)) λtu tk2 =>?_)))
 show E4 _ _ (updateSeq S (λ_ => #[.ref u.1,.int u.2.length tu]) >>= _) _ _ _
 refine Ew ?_
 refine GX bg1 rfl ?_
 rw[nm]
 refine EC ⟨Gj Fy _,D8 W hI hP hz nS (n-1) 0 _ u tu _ (by lia) (W.frame _ _ _ st1 λb fb o eb =>?_) eu (FH _ bg1 rfl) λt2 h2 tk2 p2 k2=>hR _ h2 tk2 (.inl ⟨by lia,t2,p2,rfl⟩) λb o nb ns eb=>k2 b o nb ns ?_⟩
 ·exact (Fd _ _ (λz:S=b=>nS (z ▸ fb))).trans eb
 ·exact (Fd _ _ (Gn ns)).trans (kp b o nb eb)
theorem xR (a f d:EB):argsOk "min" ⟨[a],[("key",f),("default",d)]⟩:=by unfold argsOk;kernel_rfl
theorem D9 {s:EG}{l:Addr}{its:Array EB}{ts:List (Addr×List Int)}{d:EB}{Q:EB->EG->Prop}(hh:A.handled=none)(hl:s.heap.IsList l its)(hT:∀t∈ts,TI s.heap t)(hP:∀(i:Nat) (v:EB),its[i]? = some v->∃t,ts[i]? = some t/\v = .ref t.1)(hz:∀t∈ts,t.2.length<2 ^ 63)
  (h:∀v h' tk,((0<its.size/\∃t,ts[argBest (fA ts) (its.size-1)]? = some t/\v = .ref t.1)\/(its.size=0/\v=d))->(∀b o,s.heap.get? b=some o->h'.get? b=some o)->Q v { s with heap:=h',toks:=tk }) :
  E4 (Fq prog w) A (call (.builtin "min") [.ref l] [("key",.builtin "len"),("default",d)]) Q E s:=by
 have nm:(toString "min" ++ toString ".loop" : String) = "min.loop" := by decide
 have hlt:∀t∈ts,t.1<s.heap.objs.size:=λt ht=>by
  obtain ⟨_,⟨o,ho,_⟩,_⟩:=hT t ht
  exact EN ho
 have hpl:l<s.heap.objs.size:=by obtain ⟨_,e,_⟩:=hl;exact EN e
 refine Mw (JK Kr Ks ?_)
 have hg:E4 (Fq prog w) A.in1 (Builtin.«min» ⟨[.ref l],[("key",.builtin "len"),("default",d)]⟩) (λfin s'=>match fin with
   | .done f=>(match (Except.ok f:Result) with | .ok (.ret v)=>Q v s' | .ok _=>False | .error e=>E e s')
   | .again c'=>c'.quiet=true/\IW (Fq prog w) A c' (λr s'=>match r with | .ok (.ret v)=>Q v s' | .ok _=>False | .error e=>E e s') s') E s:=by
  show E4 _ A.in1 (Builtin.Builtins.bindParams "min" ["key", "default"] 0 ⟨[],[("key",.builtin "len"),("default",d)]⟩ >>= _) _ _ s
  refine Ew (GP (a:=[some (.builtin "len"),some d]) rfl ?_)
  refine Ew (EC ?_)
  refine Ew (Hi hl ?_)
  refine Ew (Ft ?_)
  have W:=more (Lo (prog:=prog) (w:=w) (A:=A.in1) hh s.heap.objs.size l (EY hpl) its) ts (λt ht hm=>by
   have:=hlt t ht
   rw[ED.mp hm] at this
   exact Fl _ this)
  rw[nm]
  refine EC ⟨Gj Fy _,CY W (λk h x=>x.2) hP hz ?_ ⟨⟨⟨_,Ey _ (EK _ rfl),rfl,rfl⟩,(hl.push _).push _⟩,λt ht=>(hT t ht).at λo e=>Ey _ (Ey _ e)⟩ (EK _ rfl) λv h' tk hv kp =>?_⟩
  ·intro hm
   rw[FK] at hm
   rcases EU.mp hm with hm | hm
   ·rcases EW.mp hm with e | hm
    ·exact Nat.succ_ne_self _ e
    ·have:=ED.mp hm
     rw[<- this] at hpl
     exact Fl _ (IJ hpl)
   ·obtain ⟨t,ht,e⟩:=E9.mp hm
    have:=hlt t ht
    rw[e] at this
    exact Fl _ (IJ this)
  ·refine h v h' tk hv λb o e=>kp b o (λhm =>?_) (λz =>?_) (Ey _ (Ey _ e))
   ·have:=EN e
    rw[ED.mp hm] at this
    exact Fl _ this
   ·have:=EN e
    rw[z,FK] at this
    exact Fl _ (IJ this)
 simp only[checkBuiltinCall,KQ]
 cases hsig:Manifest.signature? "min" with
 | none=>exact EC hg
 | some sig =>
  have ha':Bind.checkArgs "min" sig ⟨[.ref l],[("key",.builtin "len"),("default",d)]⟩=pure ():=by simpa only[argsOk,hsig] using xR (.ref l) (.builtin "len") d
  simp only[ha']
  exact EC hg
end
end L2.MnT
namespace L2
open PySem PySem.Spec PyProof.Rows
theorem MnT.Cb (g:Nat->Nat):∀k,∀j,j<=k->g (argBest (λi j=>decide (g i<g j)) k)<=g j
 | 0,j,hj=>by rw[M3.mp hj];exact EI _
 | k+1,j,hj=>by
  have ih:=MnT.Cb g k
  by_cases hb:g (k+1)<g (argBest (λi j=>decide (g i<g j)) k)
  ·have ea:argBest (λi j=>decide (g i<g j)) (k+1)=k+1:=by simp only[argBest,decide_eq_true hb,if_true]
   rw[ea]
   by_cases e:j=k+1
   ·rw[e];exact EI _
   ·have:=ih j (by lia);lia
  ·have ea:argBest (λi j=>decide (g i<g j)) (k+1)=argBest (λi j=>decide (g i<g j)) k:=by simp only[argBest,decide_eq_false hb];rfl
   rw[ea]
   by_cases e:j=k+1
   ·rw[e];lia
   ·exact ih j (by lia)
section
variable  {X:Cx}
def Br (K:Ez)(te:TE):TE:=λσ H Q=>te σ H λx H1=>∃(p:Addr) (ts:List (Addr×List Int)),[x]=[.ref p]/\SqL K H1 p (ts.map λt =>.ref t.1)/\(∀t∈ts,SqT K H1 t.1 (t.2.map V.int))/\(ts=[]->Q .non H1)/\∀t∈ts,(∀u∈ts,t.2.length<=u.2.length)->Q (.ref t.1) H1
theorem xS {e:Expr}{te:TE}{j:Nat}{p p2 p3 pos kpos kpos2:Pos}(hc:X.calm=true)(hg:Gl X "min")(hm:X.mg "min" = none)(hg2:Gl X "len")(hm2:X.mg "len" = none)(hv:F1 "min" = some (.builtin "min"))(he:PE X e te)
    (hs:FT (e :: []) X.env=(false,eval e X.env) :: FT [] X.env:=by rfl)
    (ha:Jn pos (FT (e :: []) X.env)=(false,eval e X.env) :: Jn pos (FT [] X.env):=by rfl)
    (hplain:(Jn pos (FT (e :: []) X.env)).any (·.1)=false:=by rfl) :
    PE X (.Call (.Name "min" p) [e] [⟨some "key",.Name "len" p2,kpos⟩,⟨some "default",.Constant .none j p3,kpos2⟩] pos) (Br X.K te):=by
  intro pins s σ H Q I h
  refine HQ (eO I hg hm hv ?_)
  refine PyProof.Rows.callWith_kw (thn ((aa he ag hs) pos pins s σ H (λvs H1=>∃(p:Addr) (ts:List (Addr×List Int)),vs=[.ref p]/\SqL X.K H1 p (ts.map λt:Addr×List Int=>V.ref t.1)/\(∀t∈ts,SqT X.K H1 t.1 (t.2.map V.int))/\(ts=[]->Q .non H1)/\∀t∈ts,(∀u∈ts,t.2.length<=u.2.length)->Q (.ref t.1) H1) I h) λus s1 ⟨vs,H1,I1,r1,q1⟩ =>?_) ha hplain rfl rfl
  show E4 _ _ (evalAll ((do let v ← eval (.Name "len" p2) X.env;standAt pos;pure v) :: (do let v ← eval (.Constant .none j p3) X.env;standAt pos;pure v) :: [])) _ _ s1
  refine Me (Ew (eO I1 hg2 hm2 PySem.boot_len (Ew (Jj (EC ?_)))))
  refine Me (Ew (Constant_none (Ew (Jj (EC (wpAny_evalAll_nil ?_))))))
  show E4 _ _ (call (.builtin "min") us [("key",.builtin "len"),("default",.none)]) _ _ s1
  obtain ⟨a,ts,rfl,hq,ht,q0,q⟩:=q1
  obtain ⟨u,rfl,ru⟩:=vals1 r1
  cases (show u=E2 a from ru)
  obtain ⟨its,rv,p1,_⟩:=I1.list hq
  have ll:=rv.length
  rw[Ex] at ll
  refine MnT.D9 (ts:=ts) (I1.ok.hd hc) p1.isList (λt h' =>?_) (λi v hv =>?_) (λt h' =>?_) λv h' tk hv k =>?_
  · obtain ⟨i2,r2,p2,_⟩:=I1.tuple (ht t h')
    exact ⟨_,p2,intsAre_of r2⟩
  · rw[Fj] at hv
    have hi:i<ts.length:=by rw[ll];exact (EJ.mp hv).1
    have e1:(ts.map λt=>V.ref t.1)[i]? = some (.ref ts[i].1):=by rw[ET,EA hi];rfl
    obtain ⟨w',ew,rw'⟩:=rv.get e1
    rw[ew] at hv
    exact ⟨ts[i],EA hi,(EX hv).symm.trans rw'⟩
  · obtain ⟨i2,r2,p2,z2⟩:=I1.tuple (ht t h')
    rw[Ex,HW] at z2
    lia
  · rw[EM, <- ll] at hv
    rcases hv with ⟨hn,t,et,rfl⟩ | ⟨hn,rfl⟩
    · refine ⟨.ref t.1,H1,I1.kept k,rfl,q t (EH et) λu hu =>?_⟩
      obtain ⟨i,hi,eu⟩:=HE hu
      have:=MnT.Cb (λi=>(ts.getD i (0,[])).2.length) (ts.length-1) i (by lia)
      rw[EF,EF,et,EA hi,eu] at this
      exact this
    · exact ⟨.non,H1,I1.kept k,rfl,q0 (GN.mp hn)⟩
end
section
variable  {X:Cx}
end
theorem CZ {X:Cx}{k:Nat}(hr:dB k X.A):OpR X (Gw .NotEq) (λx y H Q=>∃(a b:Addr) (xs:List V),x = .ref a/\y = .ref b/\H a=some (.lst xs)/\H b=some (.lst [])/\(xs=[]->Q (.bl false) H)/\(xs≠[]->Q (.bl true) H)):=by
 intro pins s σ H x y v u Q I rx ry h
 obtain ⟨a,b,xs,rfl,rfl,h1,h2,q0,q1⟩:=h
 cases (show v=E2 a from rx)
 cases (show u=E2 b from ry)
 obtain ⟨i1,r1,p1,_⟩:=I.list (SqL.of (K:=X.K) h1)
 obtain ⟨i2,r2,p2,_⟩:=I.list (SqL.of (K:=X.K) h2)
 have l1:=r1.length
 have l2:=r2.length
 rw[G9] at l2
 have hu:=hr.un
 have hu1:X.A.units<cLine:=by lia
 by_cases c:xs=[]
 ·subst c
  rw[G9] at l1
  have R:=SeqAt.RcNeAt.lists (A:=X.A) (e:=λ_=>true) p1.isList p2.isList (by rw[EM,EM];lia) hu1 (λj g1 _=>by rw[EM] at g1;lia)
  rw[EM, <- l1] at R
  exact R _ _ _ _ ⟨.bl false,H,I,rfl,q0 rfl⟩
 ·have:=Gv.mpr c
  exact SeqAt.RcNeAt.lists_lengths (A:=X.A) p1.isList p2.isList (by simp;lia) hu1 _ _ _ _ ⟨.bl true,H,I,rfl,q1 c⟩
def a9 (K:Ez)(x:Str)(st:Stmt):Prop:=∃(f:Addr) (od an:Option Addr) (sl:Array (Option EB)) (oc kV dc pm cd ct:EB),F3 K Fx x=some (some (.ref f))/\K.lookup f=some ⟨oc,od,.func (PySem.W.fnOf x x (bP st) (bA st) (au st) .none kV dc pm an cd ct),sl⟩/\PySem.W.codeIn K cd x=true/\PySem.W.keepIn K (.ref f)=true
theorem a9.mk {K:Ez}{x:Str}{st:Stmt}{f:Addr}{od an:Option Addr}{sl:Array (Option EB)}{oc kV dc pm cd ct:EB}(a:F3 K Fx x=some (some (.ref f)))(l:K.lookup f=some ⟨oc,od,.func (PySem.W.fnOf x x (bP st) (bA st) (au st) .none kV dc pm an cd ct),sl⟩)(c:PySem.W.codeIn K cd x=true)(k:PySem.W.keepIn K (.ref f)=true):a9 K x st:=⟨_,_,_,_,_,_,_,_,_,_,a,l,c,k⟩
theorem a9.cal {K:Ez}{x:Str}{st:Stmt}(hf:a9 K x st)(P:EV)(w:Fm)(base:Heap){h:Heap}{mg:Str->Option EB}(X:K.In h)(G:h.Ns Fx mg){lv:Nat}{ps:List Str}{sp:Sp}(ok:∀{f:Addr} {fd:Fi},Fun K x x st f fd->aV P w K mg base CX0 lv f fd ps sp)
  (hb:∀(kV doc pm:EB) (an:Option Addr) (cdv ct:EB) (us:List EB),us.length=ps.length->bindArgs (PySem.W.fnOf x x (bP st) (bA st) (au st) .none kV doc pm an cdv ct) ⟨us,[]⟩=pure (ps.zip us)):Cal P w K mg base lv x ps sp:=by
 obtain ⟨f,od,an,sl,oc,kV,dc,pm,cd,ct,a,l,c,k⟩:=hf
 have F:=yO l c k
 exact ⟨_,_,ok F,JN X G a,k,F.binds hb⟩
section
variable  {X:Cx}
theorem sC:bD X (.builtin "isinstance") (λxs H Q=>∃(a:Addr) (ys:List V),xs=[.ref a,.ty "tuple"]/\SqT X.K H a ys/\PySem.W.kitOne X.K (.type "tuple") (.type "tuple")=some true/\Q (.bl true) H):=by
 intro pins s σ H xs us Q I r h
 obtain ⟨a,ys,rfl,hS,e,q⟩:=h
 obtain ⟨u,v,rfl,ru,rv⟩:=vals2 r
 cases (show u=E2 a from ru)
 cases (show v=Hk "tuple" from rv)
 obtain ⟨its,_,⟨o,h1,h2,_⟩,_⟩:=I.tuple hS
 exact GB LR I.kIn ⟨o,h1,h2⟩ e (λz=>nomatch z) λtk=>⟨.bl true,H,I.tok _,rfl,q⟩
theorem SqT.lit {K:Ez}{H:Hp}{a:Addr}{o:Obj}{its:Array EB}{n:Nat}{xs:List V}(h:K.lookup a=some o)(c:o.cls = .type "tuple")(d:o.data = .seq its n)(z:its.size<=ES)(r:Vals xs its.toList):SqT K H a xs :=.inr ⟨o,its,n,h,c,d,z,r⟩
end
def xT (K:Ez)(x:Str)(st:Stmt)(dv:Int):Prop:=∃(f T:Addr) (od an td:Option Addr) (sl ts:Array (Option EB)) (oc kV dc pm cd ct tc:EB) (tt tn:Nat),F3 K Fx x=some (some (.ref f))/\K.lookup f=some ⟨oc,od,.func (PySem.W.fnOf x x (bP st) (bA st) (au st) (.ref T) kV dc pm an cd ct),sl⟩/\PySem.W.codeIn K cd x=true/\PySem.W.keepIn K (.ref f)=true/\K.lookup T=some ⟨tc,td,.seq #[.int dv tt] tn,ts⟩
theorem xT.mk {K:Ez}{x:Str}{st:Stmt}{dv:Int}{f T:Addr}{od an td:Option Addr}{sl ts:Array (Option EB)}{oc kV dc pm cd ct tc:EB}{tt tn:Nat}(a:F3 K Fx x=some (some (.ref f)))(l:K.lookup f=some ⟨oc,od,.func (PySem.W.fnOf x x (bP st) (bA st) (au st) (.ref T) kV dc pm an cd ct),sl⟩)(c:PySem.W.codeIn K cd x=true)(k:PySem.W.keepIn K (.ref f)=true)(t:K.lookup T=some ⟨tc,td,.seq #[.int dv tt] tn,ts⟩):xT K x st dv:=⟨_,_,_,_,_,_,_,_,_,_,_,_,_,_,_,_,a,l,c,k,t⟩
theorem xT.cals {K:Ez}{x:Str}{st:Stmt}{dv:Int}(hf:xT K x st dv)(P:EV)(w:Fm)(base:Heap){h:Heap}{mg:Str->Option EB}(X:K.In h)(G:h.Ns Fx mg){lv:Nat}{ps:List Str}{sp:Sp}(ok:∀{f T:Addr} {fd:Fi},zp K x x st f fd T->aV P w K mg base CX0 lv f fd ps sp)
  (hb:∀(T:Addr) (kV doc pm:EB) (an td:Option Addr) (cdv ct tc:EB) (tt tn:Nat) (ts:Array (Option EB)),K.lookup T=some ⟨tc,td,.seq #[.int dv tt] tn,ts⟩->Binds K (PySem.W.fnOf x x (bP st) (bA st) (au st) (.ref T) kV doc pm an cdv ct) ps []/\Binds K (PySem.W.fnOf x x (bP st) (bA st) (au st) (.ref T) kV doc pm an cdv ct) ps [.int dv tt]) :
  Cal P w K mg base lv x ps sp/\zo P w K mg base lv x ps sp (.int dv):=by
 obtain ⟨f,T,od,an,td,sl,ts,oc,kV,dc,pm,cd,ct,tc,tt,tn,a,l,c,k,t⟩:=hf
 have F:=Bk l c k
 obtain ⟨b1,b2⟩:=hb T kV dc pm an td cd ct tc tt tn ts t
 exact ⟨⟨_,_,ok F,JN X G a,k,b1⟩,⟨_,_,_,ok F,JN X G a,k,b2,⟨_,rfl⟩⟩⟩
section
variable  {X:Cx}
theorem xU (hc:X.calm=true):bD X (.builtin "max") (λxs H Q=>∃(a:Addr) (ns:List Int),xs=[.ref a]/\SqL X.K H a (ns.map V.int)/\ns≠[]/\∀M:Int,M∈ns->(∀b∈ns,b<=M)->Q (.int M) H):=by
 intro pins s σ H xs us Q I r h
 obtain ⟨a,ns,rfl,hS,hne,q⟩:=h
 obtain ⟨u,rfl,ru⟩:=vals1 r
 cases (show u=E2 a from ru)
 obtain ⟨its,r1,p1,_⟩:=I.list hS
 obtain ⟨ps,e2,e3⟩:=eA (intsAre_of r1)
 have ei:its.toArray=Hd ps.toArray:=by rw[e2];simp[Hd]
 have hl:s.heap.IsList a (Hd ps.toArray):=by rw[<- ei];exact p1.isList
 have hz:ps.toArray.size=ns.length:=by rw[EM, <- e3,Ex]
 have hp:0<ns.length:=Gv.mpr hne
 have ht:ps.toArray.toList.map (·.1)=ns:=e3
 refine max_intList (I.ok.hd hc) hl (by lia) λv h' tk hv k =>?_
 rw[hz] at hv
 obtain ⟨t,rfl⟩:=KN hv
 obtain ⟨h1,h2⟩:=argBest_gt (numAt ps.toArray) (ns.length-1)
 refine ⟨.int _,H,I.kept k,⟨_,rfl⟩,q _ ?_ λb hb =>?_⟩
 ·rw[KP,ht];exact zi (by lia)
 ·obtain ⟨j,hj,rfl⟩:=zj hb
  have:=h2 j (by lia)
  rw[KP,KP,ht] at this
  rw[KP,ht]
  exact this
end
end L2
namespace K40
open PySem L2
abbrev LAz:=List (Addr×List Int)
variable  {P:EV}{w:Fm}{K:Ez}{mg:Str->Option EB}{base:Heap}{f T:Addr}{fd:Fi}
def top (i:Nat):Stmt:=PySem.Challenge.pw_ringfell_k40_whole_papers_bound_all.main.body.getD i (.Pass ⟨0,0,0,0⟩)
abbrev dU:Stmt:=top 1
abbrev nj:Stmt:=top 2
abbrev i6:Stmt:=top 3
abbrev gJ:Stmt:=top 4
abbrev i7:Stmt:=top 5
abbrev nk:Stmt:=top 6
abbrev zF:Stmt:=top 8
abbrev nq:Stmt:=top 9
abbrev nr:Stmt:=top 10
abbrev gK:Stmt:=top 11
abbrev kG:Stmt:=top 12
abbrev ny:Stmt:=top 13
abbrev vy:Stmt:=top 14
abbrev qq:Stmt:=top 16
abbrev kI:Stmt:=top 17
abbrev fB:Stmt:=top 18
abbrev i8:Stmt:=top 19
abbrev gL:Stmt:=top 20
abbrev gM:Stmt:=top 21
abbrev i9:Stmt:=top 22
abbrev jb:Stmt:=top 25
abbrev gN:Stmt:=top 26
abbrev gO:Stmt:=top 27
abbrev fc:Stmt:=top 28
abbrev jf:Stmt:=top 29
abbrev nz:Stmt:=top 30
abbrev gQ:Stmt:=top 31
abbrev uA:Stmt:=top 33
abbrev uB:Stmt:=top 34
abbrev zG:Stmt:=top 35
abbrev zI:Stmt:=top 36
abbrev qr:Stmt:=top 37
abbrev uC:Stmt:=top 38
abbrev kJ:Stmt:=top 39
abbrev nA:Stmt:=top 40
abbrev uD:Stmt:=top 41
abbrev jT:Stmt:=top 42
abbrev qt:Stmt:=top 43
abbrev fS:Stmt:=top 44
abbrev qu:Stmt:=top 45
abbrev iB:Stmt:=top 46
abbrev qv:Stmt:=top 47
abbrev dG:Stmt:=top 48
abbrev qw:Stmt:=top 50
abbrev fT:Stmt:=top 51
abbrev jU:Stmt:=top 52
abbrev nB:Stmt:=top 53
abbrev kK:Stmt:=top 54
abbrev nC:Stmt:=top 55
abbrev xV:Stmt:=top 56
structure Blt (mg:Str->Option EB):Prop where
 b_abs:mg "abs" = none
 b_all:mg "all" = none
 b_any:mg "any" = none
 b_bool:mg "bool" = none
 b_enumerate:mg "enumerate" = none
 b_int:mg "int" = none
 b_isinstance:mg "isinstance" = none
 b_len:mg "len" = none
 b_list:mg "list" = none
 b_max:mg "max" = none
 b_min:mg "min" = none
 b_range:mg "range" = none
 b_reversed:mg "reversed" = none
 b_set:mg "set" = none
 b_sorted:mg "sorted" = none
 b_sum:mg "sum" = none
 b_tuple:mg "tuple" = none
 b_zip:mg "zip" = none
theorem uE:F1 "abs" = some (.builtin "abs"):=by decide +kernel
theorem uF:F1 "all" = some (.builtin "all"):=by decide +kernel
theorem C0:F1 "any" = some (.builtin "any"):=by decide +kernel
theorem Bt:F1 "bool" = some (.type "bool"):=by decide +kernel
theorem C1:F1 "int" = some (.type "int"):=by decide +kernel
theorem ff:F1 "isinstance" = some (.builtin "isinstance"):=by decide +kernel
theorem bW:F1 "len" = some (.builtin "len"):=by decide +kernel
theorem Bv:F1 "list" = some (.type "list"):=by decide +kernel
theorem kM:F1 "max" = some (.builtin "max"):=by decide +kernel
theorem kN:F1 "min" = some (.builtin "min"):=by decide +kernel
theorem zJ:F1 "set" = some (.type "set"):=by decide +kernel
theorem iC:F1 "sorted" = some (.builtin "sorted"):=by decide +kernel
theorem C2:F1 "sum" = some (.builtin "sum"):=by decide +kernel
theorem cR:F1 "tuple" = some (.type "tuple"):=by decide +kernel
theorem hu8 {A:FN}{k:Nat}(hr:dB k A):A.units+8<cLine:=Fb (JT (by decide:8<=64) _) hr.units
abbrev zK:Stmt:=nq
abbrev Ea:Stmt:=vy
abbrev Eb:Stmt:=zF
abbrev zL:Stmt:=nr
structure Wb (H:Hp)(r:Addr)(m:Int)(ts:LAz):Prop where
 at':∃t,H r=some (.tup [.int m,.ref t])/\H t=some (.tup (ts.map λu =>.ref u.1))
 tup:∀u∈ts,H u.1=some (.tup (u.2.map V.int))
 pr:∀u∈ts,∃a b:Int,u.2=[a,b]/\0<=a/\a<=b/\b<m
 len:ts.length<=60
theorem Wb.tp {H H':Hp}{r:Addr}{m:Int}{ts:LAz}(h:Wb H r m ts)(t:Tp H H'):Wb H' r m ts :=
 let ⟨p,e1,e2⟩:=h.at'
 ⟨⟨p,t _ _ e1,t _ _ e2⟩,λu hu=>t _ _ (h.tup u hu),h.pr,h.len⟩
theorem Wb.same {H H':Hp}{r:Addr}{m:Int}{ts:LAz}(h:Wb H r m ts)(s:az H H'):Wb H' r m ts:=h.tp s.tp
theorem item {ts:LAz}{i:Nat}{x:V}(e:(ts.map λt:Addr×List Int=>V.ref t.1)[i]? = some x):∃u,ts[i]? = some u/\x = .ref u.1:=by
 rw[ET] at e
 cases z:ts[i]? with
 | none=>rw[z] at e;cases e
 | some tt=>rw[z] at e;exact ⟨tt,rfl,(EX e).symm⟩
theorem take_snoc {α β:Type}{f:α -> β}{l:List α}{i:Nat}{x:α}(e:l[i]? = some x):(l.take (i+1)).map f=(l.take i).map f++[f x]:=by
 rw[FW,e,ER];rfl
theorem az.cF {H H':Hp}{l:Addr}(s:az H H')(hl:H l=none)(o:HO):az H (upd H' l o):=λb u e=>by
 rw[aH (aJ e hl)];exact s _ _ e
def key (t:Addr×Int×Int):List Int:=nrm t.2.1 t.2.2
section
variable  {P:EV}{w:Fm}{K:Ez}{mg:Str->Option EB}{base:Heap}{f:Addr}{fd:Fi}
end
theorem xW {X:Cx}{body:List Stmt}{D0:Ends}{σ0:St}{H0:Hp}(sts:List Stmt)(M:St->Hp->Prop)(h:∃t2,PSs X sts t2/\∀σ H,M σ H->t2 D0 σ H)
  (g:∀t2,PSs X sts t2->(∀σ H,M σ H->t2 D0 σ H)->∃t,PSs X body t/\t D0 σ0 H0):∃t,PSs X body t/\t D0 σ0 H0:=by
 obtain ⟨t2,p2,m2⟩:=h
 exact g t2 p2 m2
def T3 (H:Hp)(ys:List V)(us:List (Addr×Int×Int)):Prop:=ys=us.map (λu =>.ref u.1)/\∀u∈us,H u.1=some (.tup [.int u.2.1,.int u.2.2])
section
variable  {P:EV}{w:Fm}{K:Ez}{mg:Str->Option EB}{base:Heap}{f:Addr}{fd:Fi}
end
section
variable  {P:EV}{w:Fm}{K:Ez}{mg:Str->Option EB}{base:Heap}{f:Addr}{fd:Fi}
end
def nb1 (p:List Int)(k:Int):List Int:=if p.getD 0 0=p.getD 1 0 then [] else if p.getD 0 0=k then [p.getD 1 0] else if p.getD 1 0=k then [p.getD 0 0] else []
theorem qx {a b k x:Int}:x∈nb1 [a,b] k↔a≠b/\((a=k/\x=b)\/(b=k/\x=a)):=by
 show x∈(if a=b then [] else if a=k then [b] else if b=k then [a] else [])↔_
 by_cases h1:a=b
 ·rw[if_pos h1];simp[h1]
 ·rw[if_neg h1]
  by_cases h2:a=k
  ·rw[if_pos h2,ED]
   exact ⟨λe=>⟨h1,.inl ⟨h2,e⟩⟩,λ⟨_,h⟩=>h.elim (λz=>z.2) λz=>absurd (h2.trans z.1.symm) h1⟩
  ·rw[if_neg h2]
   by_cases h3:b=k
   ·rw[if_pos h3,ED]
    exact ⟨λe=>⟨h1,.inr ⟨h3,e⟩⟩,λ⟨_,h⟩=>h.elim (λz=>absurd z.1 h2) λz=>z.2⟩
   ·rw[if_neg h3]
    exact ⟨λh=>(by cases h),λ⟨_,h⟩=>h.elim (λz=>absurd z.1 h2) λz=>absurd z.1 h3⟩
def nbs (ns:List (List Int))(k:Int):List Int:=ns.flatMap λp=>nb1 p k
theorem iD {ns:List (List Int)}{k x:Int}:x∈nbs ns k↔∃p∈ns,x∈nb1 p k:=List.mem_flatMap
theorem pq {k:Int}:∀{ns:List (List Int)},ns.Nodup->(∀p∈ns,∃a b:Int,p=[a,b]/\a<=b)->(nbs ns k).Nodup
 | [],_,_=>by simp[nbs]
 | p :: ns,nd,h=>by
  obtain ⟨np,nd'⟩:=Hn.mp nd
  have ih:=pq (k:=k) nd' λq hq=>h q (E8 _ hq)
  show (nb1 p k++nbs ns k).Nodup
  rw[Jq]
  refine ⟨?_,ih,λx hx y hy e =>?_⟩
  ·unfold nb1;(repeat' split) <;> simp
  ·subst e
   obtain ⟨a,b,rfl,ab⟩:=h p E7
   obtain ⟨q,hq,hy⟩:=iD.mp hy
   obtain ⟨c,d,rfl,cd⟩:=h q (E8 _ hq)
   rw[qx] at hx hy
   apply np
   obtain ⟨n1,hx⟩:=hx
   obtain ⟨n2,hy⟩:=hy
   have:a=c/\b=d:=by
    rcases hx with ⟨h1,h2⟩ | ⟨h1,h2⟩ <;> rcases hy with ⟨h3,h4⟩ | ⟨h3,h4⟩ <;> lia
   rw[this.1,this.2]
   exact hq
theorem nD {o:List Int}(h:o.Pairwise (· <= ·))(nd:o.Nodup):o.Pairwise (· < ·):=by
 have:o.Pairwise (λa b=>a<=b/\a≠b):=NH h nd
 exact this.imp λ{a b} z=>by lia
structure Rows (H2 H':Hp)(as:List Addr)(vs:List (List Int)):Prop where
 len:vs.length=as.length
 row:∀(j:Nat) a v,as[j]? = some a->vs[j]? = some v->H' a=some (.lst (v.map V.int))
 stay:∀b u,b∉as->H2 b=some u->H' b=some u
theorem Rows.push {H2 H':Hp}{as:List Addr}{vs:List (List Int)}(R:Rows H2 H' as vs)(nd:as.Nodup){j:Nat}{a:Addr}{v:List Int}(ea:as[j]? = some a)(ev:vs[j]? = some v)(x:Int) :
  Rows H2 (upd H' a (.lst ((v.map V.int)++[V.int x]))) as (vs.set j (v++[x])):=by
 have hj:j<vs.length:=(EJ.mp ev).1
 refine ⟨by rw[HD];exact R.len,λi b u eb eu =>?_,λb u hb e =>?_⟩
 ·by_cases h:i=j
  ·subst h
   rw[ea] at eb;cases eb
   rw[HH hj] at eu;cases eu
   rw[ai,ER];rfl
  ·rw[Hw (Gn h)] at eu
   have ne:b≠a:=λz=>by
    subst z
    have hi:i<as.length:=(EJ.mp eb).1
    exact h ((Mp hi nd).mp (eb.trans ea.symm))
   rw[aH ne]
   exact R.row i b u eb eu
 ·have ne:b≠a:=λz=>hb (z ▸ EH ea)
  rw[aH ne]
  exact R.stay b u hb e
def C3 (vs:List (List Int))(m:Nat)(ns:List (List Int)):Prop:=vs.length=m/\∀(j:Nat) v,vs[j]? = some v->v=nbs ns (j:Int)
theorem qy (k:Int):∀ns:List (List Int),(nbs ns k).length<=ns.length
 | []=>by simp[nbs]
 | p :: ns=>by
  show (nb1 p k++nbs ns k).length<=_
  have:=qy k ns
  have h1:(nb1 p k).length<=1:=by unfold nb1;(repeat' split) <;> simp
  rw[EE,Fg]
  lia
theorem sD (ns:List (List Int))(p:List Int)(k:Int):nbs (ns++[p]) k=nbs ns k++nb1 p k:=by unfold nbs;simp
abbrev sE:Sp:=λvs H Q _=>∃(r:Addr) (m:Int) (ts:LAz),vs=[.ref r]/\Wb H r m ts/\0<=m/\m<=1000/\∀(l:Addr) (H':Hp) (os:LAz),az H H'->H' l=some (.lst (os.map λu =>.ref u.1))->os.length=m.toNat->(∀u∈os,H' u.1=some (.lst (u.2.map V.int))) →
 (∀(j:Nat) u,os[j]? = some u->u.2.Pairwise (· < ·)/\∀x,x∈u.2↔x∈nbs (ts.map (·.2)) (j:Int))->Q (.ref l) H'
@[irreducible] def mh:Sp:=sE
theorem gR {vs:List V}{H:Hp}{Q:VK}{E:XK}:mh vs H Q E↔sE vs H Q E:=by
 delta mh
 exact Ge
theorem ow {X:Cx}{K:Ez}(h:X.K=K:=by rfl):bD X (.builtin "sorted") (λxs H Q=>∃(p:Addr) (ns:List Int),xs=[.ref p]/\(SqL K H p (ns.map V.int)\/SqT K H p (ns.map V.int))/\ns.length<64/\∀(l:Addr) (out:List Int),H l=none->out.Perm ns->out.Pairwise (· <= ·)->Q (.ref l) (upd H l (.lst (out.map V.int)))):=by
 subst h;exact qd
section
variable  {P:EV}{w:Fm}{K:Ez}{mg:Str->Option EB}{base:Heap}{f:Addr}{fd:Fi}
theorem ndPl:(["place"]:List Str).Nodup:=by decide +kernel
theorem ndRo:(["row"]:List Str).Nodup:=by decide +kernel
theorem qz:aG ["web", "near", "tie"] ["web"] (au zK):=⟨rfl,rfl,rfl,by decide +kernel,rfl,by decide +kernel,by decide +kernel⟩
theorem Bw (F:Fun K "near_lists" "near_lists" zK f fd)(mr:mg "range" = none)(mst:mg "set" = none)(mso:mg "sorted" = none):aV P w K mg base CX0 1 f fd ["web"] mh:=by
 refine F.ok qz (λvs H Q E h =>?_) (λcdv A outer s H vs Q E hr h =>?_)
 ·obtain ⟨a,b,c,rfl,_⟩:=gR.mp h
  rfl
 obtain ⟨r,m,ts,rfl,W,m0,m1,q⟩:=gR.mp h
 obtain ⟨t,e1,e2⟩:=W.at'
 refine ⟨_,ah (cE (i:=1) ["place"] [none] rfl qz.nd rfl rfl (aY rfl mr (aa (ax av (pv 0) ae (λ_ _=>rfl)) ag)) rfl (λ_ _ _ _ _=>aE (i:=0) ndPl rfl (Or.inl rfl)) (λ_ _ _ _ _=>cf) (λ_ _ _ _ _=>cy ag))
  (ah (bB Fp rfl (bp (aI (gE (w:=w) rfl hr.hd) rfl mso iC (aa (bq (m6 (w:=w) rfl hr.hd hr.units) rfl mst PySem.Pv.boot_set (aa (ax av (pv 0) ae (λ_ _=>rfl)) ag)) ag))) (aE (i:=2) qz.nd rfl (Or.inl rfl))
   (aq (aU (aA lD (ax av (pv 2) ae (λ_ _=>rfl)) (ax av (pv 2) ae (λ_ _=>rfl)) (aK _))
    (ah (da (gA FY Ga Gb cg (ax bz (pv 1) (ax av (pv 2) ae (λ_ _=>rfl)) (λ_ _=>rfl)) (aa (ax av (pv 2) ae (λ_ _=>rfl)) ag)))
    (aq (da (gA FY Ga Gb cg (ax bz (pv 1) (ax av (pv 2) ae (λ_ _=>rfl)) (λ_ _=>rfl)) (aa (ax av (pv 2) ae (λ_ _=>rfl)) ag))))) aM)))
  (aq (aF (bc ["row"] [none] rfl (bp (pv 1)) rfl (λ_ _ _ _ _=>aE (i:=0) ndRo rfl (Or.inl rfl)) (λ_ _ _ _ _=>cf) (λ_ _ _ _ _=>aI (ow (K:=K)) rfl mso iC (aa (pv 0) ag)))))),?_⟩
 let W0:Nat->List V->Hp->Prop:=λi ys H'=>az H H'/\∃as:List Addr,ys=as.map V.ref/\as.length=i/\as.Nodup/\∀a∈as,H a=none/\H' a=some (.lst [])
 refine ⟨_,rfl,r,_,0,_,rfl,rfl,SqT.of e1,rfl,m,rfl,by lia,by lia,bE (lo:=0) (n:=m.toNat) W0 ⟨az.refl _,[],rfl,rfl,Ju,λa ha=>by cases ha⟩ (small (by lia)) ?_ ?_⟩
 ·rintro i ys H3 hi hy ⟨s3,as,rfl,la,nd,ha⟩ R1 R0 r1 r0
  refine aP ⟨(by show 0<=ES;decide),λp hp=>r1 _ _ ⟨s3.trans (ak hp _),as++[p],by rw[ER];rfl,by rw[EE,la];rfl,?_,λa m' =>?_⟩⟩
  ·rw[Jq]
   refine ⟨nd,Hn.mpr ⟨by simp,Ju⟩,λx hx y hy e =>?_⟩
   rw[ED] at hy
   subst hy;subst e
   rw[(ha x hx).2] at hp;cases hp
  ·rcases EU.mp m' with z | z
   ·exact ⟨(ha a z).1,(ak hp _) _ _ (ha a z).2⟩
   ·rw[ED] at z
    subst z
    refine ⟨?_,ai⟩
    cases e:H a with
    | none=>rfl
    | some o=>rw[s3 _ _ e] at hp;cases hp
 rintro ys H3 hy ⟨s3,as,rfl,la,nd,ha⟩ l hl
 have s1:=s3.trans (ak hl (.lst (as.map V.ref)))
 have nl:l∉as:=λz=>by rw[(ha l z).2] at hl;cases hl
 have ha1:∀a∈as,upd H3 l (.lst (as.map V.ref)) a=some (.lst []):=λa z=>(ak hl _) _ _ (ha a z).2
 have hl1:upd H3 l (.lst (as.map V.ref)) l=some (.lst (as.map V.ref)):=ai
 generalize upd H3 l (.lst (as.map V.ref))=H1 at s1 ha1 hl1
 have tsl:=W.len
 refine ⟨_,rfl,r,_,1,_,rfl,rfl,SqT.of (s1 _ _ e1),rfl,t,ts,rfl,.inr (SqT.of (s1 _ _ e2)),λu hu=>SqT.of (s1 _ _ (W.tup u hu)),by lia,λa us hna mu ndu cov hlu =>?_⟩
 have sa:=ak hna (eZ w a (us.map λt =>.ref t.1))
 refine ⟨a,us,rfl,ai,λu hu=>⟨SqT.of (sa _ _ (s1 _ _ (W.tup u (mu u hu)))),λz =>?_⟩,by lia,λl2 out hl2 pm ps =>?_⟩
 ·obtain ⟨x,y,e,_⟩:=W.pr u (mu u hu)
  rw[z] at e;cases e
 have s2':=sa.trans (ak hl2 (.lst (out.map λt =>.ref t.1)))
 have s2:=s1.trans s2'
 have nl2:l2∉as:=λz=>by rw[sa _ _ (ha1 l2 z)] at hl2;cases hl2
 have h2l2:upd (upd H1 a (eZ w a (us.map λt =>.ref t.1))) l2 (.lst (out.map λt =>.ref t.1)) l2=some (.lst (out.map λt =>.ref t.1)):=ai
 generalize upd (upd H1 a (eZ w a (us.map λt =>.ref t.1))) l2 (.lst (out.map λt =>.ref t.1))=H2 at s2 s2' h2l2
 have old:∀{b:Addr} {o:HO},H b=some o->b∉as:=λ{b o} e z=>by rw[(ha b z).1] at e;cases e
 let W1:Nat->St->Hp->Prop:=λi σ H'=>(∃c,σ=[some (.ref r),some (.ref l),c])/\∃vs,Rows H2 H' as vs/\C3 vs m.toNat ((out.take i).map (·.2))
 refine ⟨l2,rfl,⟨_,SqL.of h2l2⟩,cM (xs:=out.map λu =>.ref u.1) W1 ⟨⟨_,rfl⟩,Fn m.toNat [],⟨by rw[Ho,la],λj b v eb ev =>?_,λb u _ e=>e⟩,Ho ..,λj v ev =>?_⟩ (λi σ H' _ z =>?_) ?_ ?_⟩
 ·rw[Je] at ev
  split at ev
  ·cases ev
   exact s2' _ _ (ha1 b (EH eb))
  ·cases ev
 ·rw[Je] at ev
  split at ev
  ·cases ev;rfl
  ·cases ev
 ·obtain ⟨_,vs,R,_⟩:=z
  exact SqL.of (R.stay l2 _ nl2 h2l2)
 ·rintro i x σ H' hx ⟨⟨c,rfl⟩,vs,R,lv,RO⟩
  obtain ⟨u,eu,rfl⟩:=item hx
  have mts:=mu u (pm.mem_iff.mp (EH eu))
  obtain ⟨x,y,e3,x0,xy,ym⟩:=W.pr u mts
  have hu0:=W.tup u mts
  have hu':H' u.1=some (.tup [.int x,.int y]):=by
   rw[e3] at hu0
   exact R.stay _ _ (old hu0) (s2 _ _ hu0)
  have tk:(out.take (i+1)).map (·.2)=(out.take i).map (·.2)++[[x,y]]:=by rw[take_snoc (f:=λu:Addr×List Int=>u.2) eu,e3]
  obtain ⟨xn,rfl⟩:∃n:Nat,x=n:=⟨x.toNat,by lia⟩
  obtain ⟨yn,rfl⟩:∃n:Nat,y=n:=⟨y.toNat,by lia⟩
  have hlst:=R.stay l _ nl (s2' _ _ hl1)
  have axn:as[xn]? = some as[xn]:=EA (by lia)
  have ayn:as[yn]? = some as[yn]:=EA (by lia)
  have vxn:vs[xn]? = some vs[xn]:=EA (by lia)
  have vyn:vs[yn]? = some vs[yn]:=EA (by lia)
  have at1:atI (as.map V.ref) (xn:Int)=some (.ref as[xn]):=cC (by rw[ET,axn];rfl)
  have at2:atI (as.map V.ref) (yn:Int)=some (.ref as[yn]):=cC (by rw[ET,ayn];rfl)
  have ll:∀(j:Nat) v,vs[j]? = some v->v.length<=200:=λj v ev=>by
   rw[RO j v ev]
   refine Ff (qy _ _) ?_
   rw[Ex,Fz]
   have:=pm.length_eq
   lia
  refine ⟨_,rfl,u.1,_,0,_,rfl,rfl,SqT.of hu',rfl,_,rfl,u.1,_,1,_,rfl,rfl,SqT.of hu',rfl,rfl,_,rfl,?_⟩
  by_cases hxy:xn=yn
  ·subst hxy
   refine B5 rfl ⟨⟨_,rfl⟩,vs,R,lv,λj v ev =>?_⟩
   have nil:nb1 [(xn:Int),(xn:Int)] j=[]:=by unfold nb1;simp
   rw[tk,sD,nil,FQ]
   exact RO j v ev
  ·have hd:decide (V.int (xn:Int)=V.int (yn:Int))=false:=decide_eq_false λz=>hxy (by injection z with z;lia)
   rw[hd]
   have rowx:=R.row xn _ _ axn vxn
   have R1:=R.push nd axn vxn (yn:Int)
   have vyn':(vs.set xn (vs[xn]++[(yn:Int)]))[yn]? = some vs[yn]:=by rw[Hw hxy];exact vyn
   have rowy:=R1.row yn _ _ ayn vyn'
   have R2:=R1.push nd ayn vyn' (xn:Int)
   have hu2:=R1.stay _ _ (old hu0) (s2 _ _ hu0)
   rw[e3] at hu2
   have hlst2:=R1.stay l _ nl (s2' _ _ hl1)
   refine aP ⟨_,rfl,_,rfl,u.1,_,0,_,rfl,rfl,SqT.of hu',rfl,l,_,(xn:Int),_,rfl,rfl,SqL.of hlst,at1,.inl ⟨rfl,_,SqL.of rowx⟩,_,rfl,u.1,_,1,_,rfl,rfl,SqT.of hu',rfl,as[xn],_,_,rfl,rfl,rowx,(by rw[Ex];exact ik (by have:=ll _ _ vxn;lia)),?_⟩
   refine ⟨_,rfl,_,rfl,u.1,_,1,_,rfl,rfl,SqT.of hu2,rfl,l,_,(yn:Int),_,rfl,rfl,SqL.of hlst2,at2,.inl ⟨rfl,_,SqL.of rowy⟩,_,rfl,u.1,_,0,_,rfl,rfl,SqT.of hu2,rfl,as[yn],_,_,rfl,rfl,rowy,(by rw[Ex];exact ik (by have:=ll _ _ vyn;lia)),?_⟩
   refine ⟨⟨_,rfl⟩,_,R2,by rw[HD,HD];exact lv,λj v ev =>?_⟩
   rw[tk,sD]
   by_cases jy:yn=j
   ·subst jy
    rw[HH (by rw[HD];lia)] at ev
    cases ev
    have e4:nb1 [(xn:Int),(yn:Int)] yn=[(xn:Int)]:=by
     show (if (xn:Int)=yn then [] else if (xn:Int)=yn then [(yn:Int)] else if (yn:Int)=yn then [(xn:Int)] else [])=_
     rw[if_neg (by lia),if_neg (by lia),if_pos rfl]
    rw[e4, <- RO yn _ vyn]
   ·rw[Hw jy] at ev
    by_cases jx:xn=j
    ·subst jx
     rw[HH (by lia)] at ev
     cases ev
     have e4:nb1 [(xn:Int),(yn:Int)] xn=[(yn:Int)]:=by
      show (if (xn:Int)=yn then [] else if (xn:Int)=xn then [(yn:Int)] else if (yn:Int)=xn then [(xn:Int)] else [])=_
      rw[if_neg (by lia),if_pos rfl]
     rw[e4, <- RO xn _ vxn]
    ·rw[Hw jx] at ev
     have e4:nb1 [(xn:Int),(yn:Int)] j=[]:=by
      show (if (xn:Int)=yn then [] else if (xn:Int)=j then [(yn:Int)] else if (yn:Int)=j then [(xn:Int)] else [])=_
      rw[if_neg (by lia),if_neg (by lia),if_neg (by lia)]
     rw[e4,FQ]
     exact RO j v ev
 ·rintro σ H' ⟨⟨c,rfl⟩,vs,R,lv,RO⟩
  have hlst:=R.stay l _ nl (s2' _ _ hl1)
  rw[Ex,Fv (EI _)] at RO
  have sH':az H H':=λb o e=>R.stay b o (old e) (s2 _ _ e)
  have kns:(out.map (·.2)).Nodup:=((pm.map (·.2)).nodup_iff).mpr ndu
  have mns:∀x,x∈out.map (·.2)↔x∈ts.map (·.2):=λx=>by
   rw[(pm.map (·.2)).mem_iff]
   constructor
   ·intro hx
    obtain ⟨u,hu,rfl⟩:=E9.mp hx
    exact E9.mpr ⟨u,mu u hu,rfl⟩
   ·intro hx
    obtain ⟨u,hu,rfl⟩:=E9.mp hx
    exact cov u hu
  have pns:∀p∈out.map (·.2),∃a b:Int,p=[a,b]/\a<=b:=λp hp=>by
   obtain ⟨u,hu,rfl⟩:=E9.mp ((mns p).mp hp)
   obtain ⟨a,b,e,_,ab,_⟩:=W.pr u hu
   exact ⟨a,b,e,ab⟩
  have nbm:∀k x,x∈nbs (out.map (·.2)) k↔x∈nbs (ts.map (·.2)) k:=λk x=>by
   rw[iD,iD]
   exact ⟨λ⟨p,hp,z⟩=>⟨p,(mns p).mp hp,z⟩,λ⟨p,hp,z⟩=>⟨p,(mns p).mpr hp,z⟩⟩
  let W2:Nat->List V->Hp->Prop:=λi ys H5=>az H' H5/\∃os:LAz,ys=(os.map λu=>V.ref u.1)/\os.length=i/\(∀u∈os,H5 u.1=some (.lst (u.2.map V.int)))/\∀(j:Nat) u v,os[j]? = some u->vs[j]? = some v->u.2.Perm v/\u.2.Pairwise (· <= ·)
  refine ⟨_,rfl,l,rfl,⟨_,SqL.of hlst⟩,bx (xs:=as.map V.ref) W2 ⟨az.refl _,[],rfl,rfl,λu hu=>(by cases hu),λj u v eu=>by simp at eu⟩ (by rw[Ex];exact small (by lia)) (λi ys H5 _ z=>SqL.of (z.1 _ _ hlst)) ?_ ?_⟩
  ·rintro i x ys H5 hx hy ⟨s5,os,rfl,lo,ho,po⟩ R1 R0 r1 r0
   rw[ET] at hx
   cases ea:as[i]? with
   | none=>rw[ea] at hx;cases hx
   | some a5 =>
    rw[ea] at hx
    cases hx
    have hi:i<as.length:=(EJ.mp ea).1
    have ev:vs[i]? = some vs[i]:=EA (by lia)
    have rowa:=s5 _ _ (R.row i _ _ ea ev)
    have lv64:vs[i].length<64:=by
     have e:=RO i _ ev
     have l1:=qy (i:Int) (out.map (·.2))
     rw[Ex,pm.length_eq] at l1
     rw[e]
     lia
    refine aP ⟨_,rfl,a5,vs[i],rfl,.inl (SqL.of rowa),lv64,λl5 o5 hl5 pm5 ps5=>r1 _ _ ⟨s5.trans (ak hl5 _),os++[(l5,o5)],by rw[ER];rfl,by rw[EE,lo];rfl,λu hu =>?_,λj u v eu ev' =>?_⟩⟩
    ·rcases EU.mp hu with z | z
     ·exact (ak hl5 _) _ _ (ho u z)
     ·rw[ED] at z;subst z;exact ai
    ·by_cases hj:j<os.length
     ·rw[E1 hj] at eu
      exact po j u v eu ev'
     ·have hj2:j=i:=by
       have:=(EJ.mp eu).1
       rw[EE,Gh] at this
       lia
      subst hj2
      rw[E6 (by lia),show j-os.length=0 by lia] at eu
      cases eu
      rw[ev] at ev';cases ev'
      exact ⟨pm5,ps5⟩
  ·rintro ys H5 hy ⟨s5,os,rfl,lo,ho,po⟩ l5 hl5
   rw[Ex] at lo
   have s6:=ak hl5 (.lst (os.map λu=>V.ref u.1))
   refine q l5 _ os (sH'.trans (s5.trans s6)) ai (by lia) (λu hu=>s6 _ _ (ho u hu)) λj u eu =>?_
   have hj:j<os.length:=(EJ.mp eu).1
   have ev:vs[j]? = some vs[j]:=EA (by lia)
   obtain ⟨p1,p2⟩:=po j u _ eu ev
   have e5:=RO j _ ev
   rw[e5] at p1
   refine ⟨nD p2 (p1.nodup_iff.mpr (pq kns pns)),λx =>?_⟩
   rw[p1.mem_iff]
   exact nbm _ _
end
def Adj (ns:List (List Int))(u v:Int):Prop:=v∈nbs ns u
inductive Con (ns:List (List Int)):Int->Int->Prop
 | refl (u:Int):Con ns u u
 | step {u v w:Int}:Con ns u v->Adj ns v w->Con ns u w
def Ok (m:Nat)(ns:List (List Int)):Prop:=∀p∈ns,∃a b:Int,p=[a,b]/\0<=a/\a<=b/\b<m
theorem fU {m:Nat}{ns:List (List Int)}(O:Ok m ns){u v:Int}:Adj ns u v↔∃a b:Int,[a,b]∈ns/\a≠b/\((a=u/\v=b)\/(b=u/\v=a)):=by
 unfold Adj
 rw[iD]
 constructor
 ·rintro ⟨p,hp,h⟩
  obtain ⟨a,b,rfl,_⟩:=O p hp
  exact ⟨a,b,hp,qx.mp h⟩
 ·rintro ⟨a,b,hp,h⟩
  exact ⟨[a,b],hp,qx.mpr h⟩
theorem zM {m:Nat}{ns:List (List Int)}(O:Ok m ns){u v:Int}(h:Adj ns u v):Adj ns v u:=by
 rw[fU O] at *
 obtain ⟨a,b,hp,ne,h⟩:=h
 refine ⟨a,b,hp,ne,?_⟩
 rcases h with ⟨h1,h2⟩ | ⟨h1,h2⟩
 ·exact .inr ⟨h2.symm,h1.symm⟩
 ·exact .inl ⟨h2.symm,h1.symm⟩
theorem vz {m:Nat}{ns:List (List Int)}(O:Ok m ns){u v:Int}(h:Adj ns u v):(0<=u/\u<m)/\0<=v/\v<m:=by
 rw[fU O] at h
 obtain ⟨a,b,hp,ne,h⟩:=h
 obtain ⟨a',b',e,h1,h2,h3⟩:=O _ hp
 injection e with e1 e2
 injection e2 with e2 _
 subst e1;subst e2
 rcases h with ⟨h4,h5⟩ | ⟨h4,h5⟩ <;> subst h4 <;> subst h5 <;> omega
theorem Con.trans {ns:List (List Int)}{u v w:Int}(h:Con ns u v)(h2:Con ns v w):Con ns u w:=by
 induction h2 with
 | refl=>exact h
 | step _ a ih=>exact .step ih a
theorem Con.one {ns:List (List Int)}{u v:Int}(h:Adj ns u v):Con ns u v :=.step (.refl u) h
theorem Con.symm {m:Nat}{ns:List (List Int)}(O:Ok m ns){u v:Int}(h:Con ns u v):Con ns v u:=by
 induction h with
 | refl=>exact .refl _
 | step _ a ih=>exact (Con.one (zM O a)).trans ih
theorem Con.rng {m:Nat}{ns:List (List Int)}(O:Ok m ns){u v:Int}(h:Con ns u v)(hu:0<=u/\u<m):0<=v/\v<m:=by
 induction h with
 | refl=>exact hu
 | step _ a _=>exact (vz O a).2
def rgI (m:Nat):List Int:=(FP m).map λi:Nat=>(i:Int)
theorem vA {m:Nat}{v:Int}:v∈rgI m↔0<=v/\v<m:=by
 unfold rgI
 rw[E9]
 constructor
 ·rintro ⟨i,hi,rfl⟩
  rw[FJ] at hi
  lia
 ·intro h
  exact ⟨v.toNat,FJ.mpr (by lia),by lia⟩
theorem fC {R:List Int}{m:Nat}(nd:R.Nodup)(h:∀v∈R,0<=v/\v<m):R.length<=m:=by
 have:=GQ nd (l₂:=rgI m) λv hv=>vA.mpr (h v hv)
 unfold rgI at this
 rw[Ex,Ib] at this
 exact this
theorem uG {R:List Int}{v:Int}(nd:R.Nodup)(h:v∉R):(R++[v]).Nodup:=by
 rw[Jq]
 exact ⟨nd,Hn.mpr ⟨by simp,Ju⟩,λx hx y hy e=>h (by rw[ED] at hy;subst hy;subst e;exact hx)⟩
structure kO (H:Hp)(n:Addr)(m:Nat)(ns:List (List Int))(os:LAz):Prop where
 at':H n=some (.lst (os.map λu =>.ref u.1))
 len:os.length=m
 row:∀u∈os,H u.1=some (.lst (u.2.map V.int))
 is:∀(j:Nat) u,os[j]? = some u->∀x,x∈u.2↔x∈nbs ns (j:Int)
theorem kO.same {H H':Hp}{n:Addr}{m:Nat}{ns:List (List Int)}{os:LAz}(h:kO H n m ns os)(s:az H H'):kO H' n m ns os:=⟨s _ _ h.at',h.len,λu hu=>s _ _ (h.row u hu),h.is⟩
def zN (H:Hp)(d:Addr):Nat:=match H d with | some (.dK kvs)=>kvs.length | _=>0
def Bx (H:Hp)(y:Addr):Nat:=match H y with | some (.lst xs)=>xs.length | _=>0
section
def Cc:Sp:=λvs H Q _=>∃a b:Int,vs=[.int a,.int b]/\∀t,H t=none->Q (.ref t) (upd H t (.tup ((nrm a b).map V.int)))
theorem Ec:aG ["one", "other"] ["one", "other"] (au Eb):=⟨rfl,rfl,rfl,by decide +kernel,rfl,by decide +kernel,by decide +kernel⟩
theorem Ed (F:Fun K "tie_of" "tie_of" Eb f fd)(mx:mg "max" = none)(mn:mg "min" = none):aV P w K mg base CX0 1 f fd ["one", "other"] Cc:=by
 refine F.ok Ec (λvs H Q E h =>?_) (λcdv A outer s H vs Q E hr h =>?_)
 ·obtain ⟨a,b,rfl,_⟩:=h
  rfl
 obtain ⟨a,b,rfl,q⟩:=h
 refine ⟨_,aq (aF (bw (aa (aI (oE rfl) rfl mn kN (aa (pv 0) (aa (pv 1) ag))) (aa (aI (ie rfl) rfl mx kM (aa (pv 0) (aa (pv 1) ag))) ag)))),?_⟩
 exact ⟨_,rfl,_,rfl,_,_,rfl,_,rfl,_,rfl,_,_,rfl,(by show 2<=ES;decide),λt ht=>q t ht⟩
abbrev sF:Sp:=λvs H Q _=>∃(r:Addr) (m a b:Int) (ts:LAz),vs=[.ref r,.int a,.int b]/\Wb H r m ts/\∀H',az H H'->Q (.int ((ts.map (·.2)).count (nrm a b):Nat)) H'
@[irreducible] def jV:Sp:=sF
theorem dy {vs:List V}{H:Hp}{Q:VK}{E:XK}:jV vs H Q E↔sF vs H Q E:=by
 delta jV
 exact Ge
theorem By:aG ["web", "one", "other"] ["web", "one", "other"] (au zL):=⟨rfl,rfl,rfl,by decide +kernel,rfl,by decide +kernel,by decide +kernel⟩
theorem Bz (F:Fun K "tied_times" "tied_times" zL f fd)(cT:Cal P w K mg base 1 "tie_of" ["one", "other"] Cc):aV P w K mg base CX0 2 f fd ["web", "one", "other"] jV:=by
 refine F.ok By (λvs H Q E h =>?_) (λcdv A outer s H vs Q E hr h =>?_)
 ·obtain ⟨a,b,c,d,e,rfl,_⟩:=dy.mp h
  rfl
 obtain ⟨r,m,a,b,ts,rfl,W,q⟩:=dy.mp h
 obtain ⟨t,e1,e2⟩:=W.at'
 refine ⟨_,aq (aF (zc Kp PySem.F.type_tuple_count (uk (hu8 hr)) (ax av (pv 0) ae (λ_ _=>rfl)) (aa (ay cT hr (by decide) rfl (aa (pv 1) (aa (pv 2) ag))) ag))),?_⟩
 refine ⟨_,rfl,r,_,1,_,rfl,rfl,SqT.of e1,rfl,⟨_,_,rfl,e2⟩,_,rfl,_,rfl,a,b,rfl,λx hx =>?_⟩
 have s1:=ak hx (.tup ((nrm a b).map V.int))
 exact ⟨t,x,ts,nrm a b,rfl,rfl,s1 _ _ e2,λu hu=>s1 _ _ (W.tup u hu),ai,q _ s1⟩
end
inductive Wk (R:Int->Int->Prop)(s:Int):Nat->Int->Prop
 | z:Wk R s 0 s
 | st {n:Nat} {p o:Int}:Wk R s n p->R p o->Wk R s (n+1) o
def Dst (R:Int->Int->Prop)(s:Int)(n:Nat)(v:Int):Prop:=Wk R s n v/\∀k,k<n->¬ Wk R s k v
theorem Dst.uniq {R:Int->Int->Prop}{s:Int}{a b:Nat}{v:Int}(h1:Dst R s a v)(h2:Dst R s b v):a=b:=by
 rcases Nat.lt_trichotomy a b with h | h | h
 ·exact absurd h1.1 (h2.2 a h)
 ·exact h
 ·exact absurd h2.1 (h1.2 b h)
theorem Wk.zero {R:Int->Int->Prop}{s v:Int}(h:Wk R s 0 v):v=s:=by cases h;rfl
def stp (ns:List (List Int))(s g p o:Int):Prop:=Adj ns p o/\(p≠s\/o≠g)
theorem Wk.rng {m:Nat}{ns:List (List Int)}(O:Ok m ns){s g:Int}(hs:0<=s/\s<m){n:Nat}{v:Int}(h:Wk (stp ns s g) s n v):0<=v/\v<m:=by
 cases h with
 | z=>exact hs
 | st _ r=>exact (vz O r.1).2
def mp (C:List (Int×V)):List (Key×V):=C.map λe=>(Sum.inl e.1,e.2)
theorem qA (v:Int):∀C:List (Int×V),(v∉C.map (·.1)/\cB (mp C) (Sum.inl v)=none)\/∃x,(v,x)∈C/\cB (mp C) (Sum.inl v)=some x
 | [] =>.inl ⟨by simp,rfl⟩
 | e :: C=>by
  by_cases h:e.1=v
  ·refine .inr ⟨e.2,by rw[<- h];exact E7,?_⟩
   show cB ((Sum.inl e.1,e.2) :: mp C) (Sum.inl v)=some e.2
   rw[bT (by rw[h])]
  ·have en:cB (mp (e :: C)) (Sum.inl v)=cB (mp C) (Sum.inl v):=by
    show cB ((Sum.inl e.1,e.2) :: mp C) (Sum.inl v)=_
    rw[bU (λz=>h (by injection z))]
   rw[en]
   rcases qA v C with ⟨h1,h2⟩ | ⟨x,h1,h2⟩
   ·exact .inl ⟨by rw[EZ,EW];exact λz=>z.elim (λy=>h y.symm) h1,h2⟩
   ·exact .inr ⟨x,E8 _ h1,h2⟩
theorem zO (v:Int)(C:List (Int×V)):(cB (mp C) (Sum.inl v)).isSome=decide (v∈C.map (·.1)):=by
 rcases qA v C with ⟨h1,h2⟩ | ⟨x,h1,h2⟩
 ·rw[h2,decide_eq_false h1];rfl
 ·rw[h2,decide_eq_true (Gu (f:=(·.1)) h1)];rfl
theorem C6 {v:Int}{C:List (Int×V)}(h:v∈C.map (·.1)):∃x,(v,x)∈C/\cB (mp C) (Sum.inl v)=some x:=by
 rcases qA v C with ⟨h1,_⟩ | z
 ·exact absurd h h1
 ·exact z
theorem C7 {v:Int}{C:List (Int×V)}(h:v∉C.map (·.1))(x:V):putK (mp C) (Sum.inl v) x=mp (C++[(v,x)]):=by
 rcases qA v C with ⟨_,h2⟩ | ⟨x,h1,_⟩
 ·rw[ze _ h2];unfold mp;rw[ER];rfl
 ·exact absurd (Gu (f:=(·.1)) h1) h
theorem uH (C:List (Int×V)):(mp C).length=C.length:=Ex _
structure Rnd (ns:List (List Int))(s g:Int)(d:Nat)(C:List (Int×V))(Y F:List Int):Prop where
 nd:(C.map (·.1)).Nodup
 ent:∀e∈C,(e.1=s/\e.2 = .non)\/∃(p:Int) (n:Nat),e.2 = .int p/\Dst (stp ns s g) s n p/\Dst (stp ns s g) s (n+1) e.1/\stp ns s g p e.1
 key:∀v,v∈C.map (·.1)↔(∃n,n<=d/\Wk (stp ns s g) s n v)\/v∈F
 rdy:∀v,v∈Y↔Dst (stp ns s g) s d v
 fur:∀v∈F,Dst (stp ns s g) s (d+1) v
theorem Rnd.start (ns:List (List Int))(s g:Int):Rnd ns s g 0 [(s,.non)] [s] []:=by
 refine ⟨Hn.mpr ⟨by simp,Ju⟩,λe he =>?_,λv =>?_,λv =>?_,λv h=>by cases h⟩
 ·rw[ED] at he;subst he;exact .inl ⟨rfl,rfl⟩
 ·show v∈[s]↔_
  rw[ED]
  refine ⟨λh =>.inl ⟨0,EI _,h ▸ .z⟩,λh =>?_⟩
  rcases h with ⟨n,h1,h2⟩ | h
  ·cases M3.mp h1;exact h2.zero
  ·cases h
 ·rw[ED]
  exact ⟨λh=>⟨h ▸ .z,λk hk=>absurd hk (HZ _)⟩,λh=>h.1.zero⟩
theorem Rnd.add {ns:List (List Int)}{s g:Int}{d:Nat}{C:List (Int×V)}{Y F:List Int}(h:Rnd ns s g d C Y F){p o:Int}(hp:p∈Y)(ha:stp ns s g p o)(hn:o∉C.map (·.1)):Rnd ns s g d (C++[(o,.int p)]) Y (F++[o]):=by
 have dp:=(h.rdy p).mp hp
 have dw:Dst (stp ns s g) s (d+1) o:=⟨.st dp.1 ha,λk hk w=>hn ((h.key o).mpr (.inl ⟨k,Ia hk,w⟩))⟩
 refine ⟨?_,λe he =>?_,λv =>?_,h.rdy,λv hv =>?_⟩
 ·rw[ER];exact uG h.nd hn
 ·rcases EU.mp he with z | z
  ·exact h.ent e z
  ·rw[ED] at z;subst z
   exact .inr ⟨p,d,rfl,dp,dw,ha⟩
 ·rw[ER,EU,h.key,EU]
  exact or_assoc
 ·rcases EU.mp hv with z | z
  ·exact h.fur v z
  ·rw[ED] at z;subst z;exact dw
theorem Rnd.next {ns:List (List Int)}{s g:Int}{d:Nat}{C:List (Int×V)}{Y F:List Int}(h:Rnd ns s g d C Y F)(cl:∀p∈Y,∀o,stp ns s g p o->o∈C.map (·.1)):Rnd ns s g (d+1) C F []:=by
 have lo:∀v,Wk (stp ns s g) s (d+1) v->v∈C.map (·.1):=λv w=>by
  cases w with
  | st w1 r =>
   rename_i p
   by_cases z:∃k,k<d/\Wk (stp ns s g) s k p
   ·obtain ⟨k,hk,wk⟩:=z
    exact (h.key v).mpr (.inl ⟨k+1,hk,.st wk r⟩)
   ·exact cl p ((h.rdy p).mpr ⟨w1,λk hk wk=>z ⟨k,hk,wk⟩⟩) v r
 refine ⟨h.nd,h.ent,λv=>⟨λhv =>?_,λhv =>?_⟩,λv=>⟨h.fur v,λdv =>?_⟩,λv hv=>by cases hv⟩
 ·rcases (h.key v).mp hv with ⟨n,hn,w⟩ | z
  ·exact .inl ⟨n,Nat.le_succ_of_le hn,w⟩
  ·exact .inl ⟨d+1,EI _,(h.fur v z).1⟩
 ·rcases hv with ⟨n,hn,w⟩ | z
  ·rcases Ja d n with c | c
   ·have:n=d+1:=by lia
    subst this;exact lo v w
   ·exact (h.key v).mpr (.inl ⟨n,c,w⟩)
  ·cases z
 ·rcases (h.key v).mp (lo v dv.1) with ⟨n,hn,w⟩ | z
  ·exact absurd w (dv.2 n (Nat.lt_succ_of_le hn))
  ·exact z
theorem Rnd.stop {ns:List (List Int)}{s g:Int}{d:Nat}{C:List (Int×V)}(h:Rnd ns s g d C [] []){k:Nat}{v:Int}(w:Wk (stp ns s g) s k v):v∈C.map (·.1):=by
 refine (h.key v).mpr (.inl ?_)
 induction w with
 | z=>exact ⟨0,FE _,.z⟩
 | st w1 r ih =>
  rename_i n p o
  obtain ⟨n,hn,wn⟩:=ih
  by_cases z:∃k,k<d/\Wk (stp ns s g) s k p
  ·obtain ⟨k,hk,wk⟩:=z
   exact ⟨k+1,hk,.st wk r⟩
  ·have:n=d:=by
    rcases Ja n d with c | c
    ·exact absurd ⟨n,c,wn⟩ z
    ·lia
   subst this
   have:=(h.rdy p).mpr ⟨wn,λk hk wk=>z ⟨k,hk,wk⟩⟩
   cases this
theorem Rnd.dst {ns:List (List Int)}{s g:Int}{d:Nat}{C:List (Int×V)}{Y:List Int}(h:Rnd ns s g d C Y []){v:Int}(hv:v∈C.map (·.1)):∃n,n<=d/\Dst (stp ns s g) s n v:=by
 obtain ⟨e,he,rfl⟩:=E9.mp hv
 rcases h.ent e he with ⟨h1,_⟩ | ⟨p,n,_,_,h3,_⟩
 ·exact ⟨0,FE _,h1 ▸ .z,λk hk=>absurd hk (HZ _)⟩
 ·rcases (h.key e.1).mp hv with ⟨k,hk,w⟩ | z
  ·refine ⟨n+1,?_,h3⟩
   rcases Ja d (n+1) with c | c
   ·exact absurd w (h3.2 k (by lia))
   ·exact c
  ·cases z
structure Trl (ns:List (List Int))(s g:Int)(N:Nat)(Z:List Int):Prop where
 hd:Z[0]? = some g
 dst:∀i x,Z[i]? = some x->i<=N/\Dst (stp ns s g) s (N-i) x
 ch:∀i x y,Z[i]? = some x->Z[i+1]? = some y->stp ns s g y x
theorem Trl.start {ns:List (List Int)}{s g:Int}{N:Nat}(h:Dst (stp ns s g) s N g):Trl ns s g N [g]:=by
 refine ⟨rfl,λi x e =>?_,λi x y _ e=>by simp at e⟩
 cases i with
 | zero=>cases e;exact ⟨FE _,h⟩
 | succ i=>simp at e
theorem Trl.add {ns:List (List Int)}{s g:Int}{N n:Nat}{W:List Int}{p q:Int}(h:Trl ns s g N (W++[p]))(hn:n+1+W.length=N)(dq:Dst (stp ns s g) s n q)(hs:stp ns s g q p):Trl ns s g N (W++[p]++[q]):=by
 have lz:(W++[p]).length=W.length+1:=by simp
 refine ⟨?_,λi x e =>?_,λi x y e1 e2 =>?_⟩
 ·rw[E1 (by lia)];exact h.hd
 ·rcases Ja i (W.length+1) with c | c
  ·rw[E1 (by lia)] at e;exact h.dst i x e
  ·rw[E6 (by lia),lz] at e
   have:i-(W.length+1)=0:=by
    rcases Iz (i-(W.length+1)) with z | z
    ·exact z
    ·rw[Gi (by simp;lia)] at e;cases e
   rw[this] at e;cases e
   refine ⟨by lia,?_⟩
   rw[show N-i=n by lia];exact dq
 ·rcases Ja (i+1) (W.length+1) with c | c
  ·rw[E1 (by lia)] at e1 e2;exact h.ch i x y e1 e2
  ·rw[E6 (by lia),lz] at e2
   have:i+1-(W.length+1)=0:=by
    rcases Iz (i+1-(W.length+1)) with z | z
    ·exact z
    ·rw[Gi (by simp;lia)] at e2;cases e2
   rw[this] at e2;cases e2
   rw[E1 (by lia),E6 (by lia),show i-W.length=0 by lia] at e1
   cases e1;exact hs
def Way (ns:List (List Int))(s g:Int)(N:Nat)(Z:List Int):Prop:=Trl ns s g N Z/\Z.length=N+1
def chn (P:Int->Int->Prop):List Int->Prop
 | a :: b :: t=>P a b/\chn P (b :: t)
 | _=>True
theorem jW {P:Int->Int->Prop}:∀{Z:List Int},(∀(i:Nat) x y,Z[i]? = some x->Z[i+1]? = some y->P x y)->chn P Z
 | [],_=>trivial
 | [_],_=>trivial
 | a :: b :: t,h=>⟨h 0 a b rfl rfl,jW λi x y e1 e2=>h (i+1) x y e1 e2⟩
def Td (ns:List (List Int))(x y:Int):Prop:=nrm x y∈ns
theorem Td.symm {ns:List (List Int)}(x y:Int)(h:Td ns x y):Td ns y x:=by unfold Td at *;rw[bK];exact h
theorem bL {a b:Int}(h:a<=b):nrm a b=[a,b]:=by
 unfold nrm mnI mxI
 by_cases c:a=b
 ·subst c;simp
 ·rw[if_neg (by lia),if_pos (by lia)]
theorem C8 {m:Nat}{ns:List (List Int)}(O:Ok m ns){u v:Int}:Adj ns u v↔u≠v/\Td ns u v:=by
 rw[fU O]
 unfold Td
 constructor
 ·rintro ⟨a,b,hp,ne,h⟩
  obtain ⟨_,_,e,_,ab,_⟩:=O _ hp
  cases e
  rcases h with ⟨rfl,rfl⟩ | ⟨rfl,rfl⟩
  ·exact ⟨ne,by rw[bL ab];exact hp⟩
  ·exact ⟨Gn ne,by rw[bK,bL ab];exact hp⟩
 ·rintro ⟨ne,h⟩
  rcases Kg u v with c | c
  ·rw[bL c] at h;exact ⟨u,v,h,ne,.inl ⟨rfl,rfl⟩⟩
  ·rw[bK,bL c] at h;exact ⟨v,u,h,Gn ne,.inr ⟨rfl,rfl⟩⟩
structure Ring (m:Nat)(ns:List (List Int))(Z:List Int):Prop where
 ne:Z≠[]
 nd:Z.Nodup
 rng:∀v∈Z,0<=v/\v<m
 ch:chn (Td ns) (Z++Z.take 1)
 two:∀x y,Z=[x,y]->2<=ns.count (nrm x y)
theorem Trl.inj {ns:List (List Int)}{s g:Int}{N:Nat}{Z:List Int}(h:Trl ns s g N Z):Z.Nodup:=by
 refine IP.mpr λi j hi hj hij e =>?_
 have a:=h.dst i Z[i] (EA hi)
 have b:=h.dst j Z[j] (EA hj)
 rw[<- e] at b
 have:=a.2.uniq b.2
 omega
theorem Trl.rng {m:Nat}{ns:List (List Int)}(O:Ok m ns){s g:Int}(hs:0<=s/\s<m){N:Nat}{Z:List Int}(h:Trl ns s g N Z):∀v∈Z,0<=v/\v<m:=λv hv=>by
 obtain ⟨i,e⟩:=Hr.mp hv
 exact (h.dst i v e).2.1.rng O hs
theorem Way.last {ns:List (List Int)}{s g:Int}{N:Nat}{Z:List Int}(h:Way ns s g N Z):Z[N]? = some s:=by
 obtain ⟨x,ex⟩:∃x,Z[N]? = some x:=⟨_,EA (by have:=h.2;lia)⟩
 have a:=(h.1.dst N x ex).2
 rw[G1] at a
 rw[ex,a.1.zero]
theorem Way.two {ns:List (List Int)}{s g:Int}(ne:s≠g){N:Nat}{Z:List Int}(h:Way ns s g N Z):2<=N:=by
 rcases N with _ | _ | N
 ·have a:=(h.1.dst 0 g h.1.hd).2
  exact absurd a.1.zero.symm ne
 ·have:=h.1.ch 0 g s h.1.hd h.last
  exact absurd this.2 (by simp)
 ·lia
theorem Way.ring {m:Nat}{ns:List (List Int)}(O:Ok m ns){s g:Int}(ne:s≠g)(hs:0<=s/\s<m)(td:Td ns s g){N:Nat}{Z:List Int}(h:Way ns s g N Z):Ring m ns Z:=by
 have h2:=h.two ne
 have lz:=h.2
 refine ⟨λz=>by rw[z] at lz;simp at lz,h.1.inj,h.1.rng O hs,?_,λx y e=>by rw[e] at lz;simp at lz;omega⟩
 ·have t1:Z.take 1=[g]:=by
   have:=h.1.hd
   cases Z with
   | nil=>cases this
   | cons a t=>cases this;rfl
  rw[t1]
  refine jW λi x y e1 e2 =>?_
  rcases Ja (i+1) Z.length with c | c
  ·rw[E1 (by omega)] at e1 e2
   exact Td.symm _ _ ((C8 O).mp (h.1.ch i x y e1 e2).1).2
  ·rw[E6 (by omega)] at e2
   have:i+1-Z.length=0:=by
    rcases Iz (i+1-Z.length) with z | z
    ·exact z
    ·rw[Gi (by simp;omega)] at e2;cases e2
   rw[this] at e2;cases e2
   rw[E1 (by omega),show i=N by omega,h.last] at e1
   cases e1;exact td
def rot (ns:List Int)(k:Nat):List Int:=ns.drop k++ns.take k
def turn (ns:List Int):List Int:=ns.take 1++(ns.drop 1).reverse
def fV (a b:List Int):List Int:=if HT.lexLt b a=true then b else a
def frm (ns:List Int)(M:Int):List Int:=fV (rot ns (ns.idxOf M)) (turn (rot ns (ns.idxOf M)))
theorem uI (xs:List V){k:Nat}(h:k<=xs.length):cS xs none (some (k:Int))=xs.take k:=by
 unfold cS HT.sIx
 simp only[show ¬ ((k:Int)<0) by lia,if_false,GK,Lc,Jt,show min k xs.length=k by lia]
theorem qB (xs:List V){k:Nat}(h:k<=xs.length):cS xs (some (k:Int)) none=xs.drop k:=by
 unfold cS HT.sIx
 simp only[show ¬ ((k:Int)<0) by lia,if_false,GK,show min k xs.length=k by lia]
 exact Fv (by rw[FD];exact EI _)
abbrev vD:Sp:=λvs H Q _=>∃(p:Addr) (ns:List Int),vs=[.ref p]/\H p=some (.tup (ns.map V.int))/\ns≠[]/\ns.length<=500/\∀(z:Addr) (H':Hp) (M:Int),az H H'->M∈ns->(∀b∈ns,M<=b)->H' z=some (.tup ((frm ns M).map V.int))->Q (.ref z) H'
@[irreducible] def kP:Sp:=vD
theorem cG {vs:List V}{H:Hp}{Q:VK}{E:XK}:kP vs H Q E↔vD vs H Q E:=by
 delta kP
 exact Ge
section
theorem jg:aG ["ring", "at", "onward"] ["ring"] (au kI):=⟨rfl,rfl,rfl,by decide +kernel,rfl,by decide +kernel,by decide +kernel⟩
theorem uJ (F:Fun K "ring_form" "ring_form" kI f fd)(B:Blt mg):aV P w K mg base CX0 1 f fd ["ring"] kP:=by
 refine F.ok jg (λvs H Q E h =>?_) (λcdv A outer s H vs Q E hr h =>?_)
 ·obtain ⟨_,_,rfl,_⟩:=cG.mp h
  rfl
 obtain ⟨p,ns,rfl,ep,ne,l5,q⟩:=cG.mp h
 refine ⟨_,(ah (aB (i:=1) jg.nd rfl (Or.inl rfl) (zc Kt PySem.F.type_tuple_index xQ (pv 0) (aa (aI (uz rfl) rfl B.b_min kN (aa (pv 0) ag rfl)) ag rfl)))
  (ah (aB (i:=2) jg.nd rfl (Or.inl rfl) (aD ni (bq aZ rfl B.b_tuple cR (aa (cc jS (pv 0) (cO (pv 1)) cN) ag rfl)) (bq aZ rfl B.b_tuple cR (aa (cc jS (pv 0) cN (cO (pv 1))) ag rfl))))
  (aq (aF (aI (uy rfl (hu8 hr)) rfl B.b_min kN (aa (pv 2) (aa (aD ni (cc jS (pv 2) cN (cO ae)) (xP hr.hd rfl B.b_tuple rfl B.b_reversed (cc jS (pv 2) (cO ae) cN))) ag rfl) rfl)))))),?_⟩
 have lm:(ns.map V.int).length=ns.length:=Ex _
 refine ⟨_,rfl,⟨p,_,rfl,ep⟩,_,rfl,p,ns,rfl,SqT.of ep,ne,λM hM mn=>⟨p,ns,M,rfl,rfl,ep,hM,?_⟩⟩
 have hk:ns.idxOf M<=ns.length:=Gz (G3.mpr hM)
 have q:=λz H'=>q z H' M
 unfold frm rot at q
 generalize ns.idxOf M=k at hk q
 refine ⟨_,rfl,_,rfl,_,rfl,p,_,rfl,ep,λp1 H1 s1 e1=>⟨p1,_,rfl,.inr ⟨SqT.of e1,?_⟩⟩⟩
 rw[qB _ (by rw[lm];exact hk), <- Ik] at e1
 refine ⟨_,rfl,_,rfl,_,rfl,p,_,rfl,s1 _ _ ep,λp2 H2 s2 e2=>⟨p2,_,rfl,.inr ⟨SqT.of e2,?_⟩⟩⟩
 rw[uI _ (by rw[lm];exact hk), <- IH] at e2
 refine ⟨p1,p2,_,_,rfl,rfl,s2 _ _ e1,e2,by rw[Ex,Ex,FD,Fz];exact small (by lia),λp3 H3 s3 e3 =>?_⟩
 rw[<- ER] at e3
 have lo:(ns.drop k++ns.take k).length=ns.length:=by rw[EE,FD,Fz];lia
 generalize ns.drop k++ns.take k=os at e3 lo q
 have lom:(os.map V.int).length=os.length:=Ex _
 have po:=Gv.mpr ne
 refine ⟨_,rfl,_,rfl,1,rfl,p3,_,rfl,e3,λp4 H4 s4 e4 =>?_⟩
 rw[show cS (os.map V.int) none (some 1)=(os.map V.int).take 1 from uI (k:=1) _ (by rw[lom];lia), <- IH] at e4
 refine ⟨_,rfl,1,rfl,p3,_,rfl,s4 _ _ e3,λp5 H5 s5 e5 =>?_⟩
 rw[show cS (os.map V.int) (some 1) none=(os.map V.int).drop 1 from qB (k:=1) _ (by rw[lom];lia), <- Ik] at e5
 refine ⟨p5,_,rfl,SqT.of e5,by rw[Ex,FD];lia,λp6 hp6 =>?_⟩
 rw[<- List.map_reverse]
 obtain ⟨H6,zQ9,g6,ep6⟩:=nwZ hp6 (.tup ((os.drop 1).reverse.map V.int))
 rw[zQ9]
 refine ⟨p4,p6,_,_,rfl,rfl,g6 _ _ (s5 _ _ e4),ep6,by rw[Ex,Ex,Fz,Im,FD];exact small (by lia),λp7 H7 s7 e7 =>?_⟩
 rw[<- ER] at e7
 have s47:=s4.trans (s5.trans (g6.trans s7))
 have sA:=s1.trans (s2.trans (s3.trans s47))
 refine ⟨p3,p7,os,_,rfl,SqT.of (s47 _ _ e3),SqT.of e7,λz=>q p7 H7 sA hM mn ?_,λz=>q p3 H7 sA hM mn ?_⟩
 ·rw[show fV os (turn os)=turn os by unfold fV;exact if_pos z]
  exact e7
 ·rw[show fV os (turn os)=os by unfold fV;exact if_neg (by show ¬ HT.lexLt (turn os) os=true;unfold turn;rw[z];exact EO)]
  exact s47 _ _ e3
end
def yl (σ:St)(H:Hp):Nat:=match σ with
 | _ :: _ :: _ :: _ :: some (.ref y) :: _=>match H y with
  | some (.lst (_ :: _))=>1
  | _=>0
 | _=>0
theorem Cd {c0 c1 c2 c3:Option V}{y:Addr}{r:St}{H:Hp}{xs:List V}(e:H y=some (.lst xs)):yl (c0 :: c1 :: c2 :: c3 :: some (.ref y) :: r) H=if xs=[] then 0 else 1:=by
 unfold yl
 dsimp only
 rw[e]
 cases xs with
 | nil=>rfl
 | cons a t=>rfl
theorem dD {n:Nat}(h:n<=5000):n<ES:=Fb h (by decide)
theorem aW {n:Nat}(h:n<=5000):n<=ES:=Gz (dD h)
theorem eD {ms:List Int}{i:Nat}{x:V}(e:(ms.map V.int)[i]? = some x):∃n,ms[i]? = some n/\x = .int n:=by
 rw[ET] at e
 cases z:ms[i]? with
 | none=>rw[z] at e;cases e
 | some n=>rw[z] at e;exact ⟨n,rfl,(EX e).symm⟩
theorem vE {H:Hp}{d:Addr}{kvs:List (Key×V)}(e:H d=some (.dK kvs)):zN H d=kvs.length:=by unfold zN;rw[e]
theorem vF {H:Hp}{d:Addr}{xs:List V}(e:H d=some (.lst xs)):Bx H d=xs.length:=by unfold Bx;rw[e]
theorem iE {l:List Int}{i:Nat}{x v:Int}(e:l[i]? = some x)(h:v∈l.take (i+1)):v∈l.take i\/v=x:=by
 rw[FW,e] at h
 rcases EU.mp h with z | z
 ·exact .inl z
 ·exact .inr (by simpa using z)
abbrev zP:Sp:=λvs H Q _=>∃(n:Addr) (m:Nat) (ns:List (List Int)) (os:LAz) (s g:Int),vs=[.ref n,.int s,.int g]/\kO H n m ns os/\Ok m ns/\m<=400/\(0<=s/\s<m)/\s≠g/\(∀H',az H H'->(∀k,¬ Wk (stp ns s g) s k g)->Q .non H')/\∀(z:Addr) (H':Hp) (N:Nat) (Z:List Int),az H H'->H' z=some (.tup (Z.map V.int))->Way ns s g N Z->Q (.ref z) H'
@[irreducible] def vG:Sp:=zP
theorem kQ {vs:List V}{H:Hp}{Q:VK}{E:XK}:vG vs H Q E↔zP vs H Q E:=by
 delta vG
 exact Ge
section
theorem bI:aG ["near", "start", "goal", "came", "ready", "further", "place", "other", "way"] ["near", "start", "goal"] (au fB):=⟨rfl,rfl,rfl,by decide +kernel,rfl,by decide +kernel,by decide +kernel⟩
theorem uK (F:Fun K "way_about" "way_about" fB f fd)(B:Blt mg):aV P w K mg base CX0 1 f fd ["near", "start", "goal"] vG:=by
 refine F.ok bI (λvs H Q E h =>?_) (λcdv A outer s H vs Q E hr h =>?_)
 ·obtain ⟨_,_,_,_,_,_,rfl,_⟩:=kQ.mp h
  rfl
 obtain ⟨n,m,ns,os,sa,gb,rfl,N,O,m4,hs,nsg,q0,q1⟩:=kQ.mp h
 have hu:(ku CX0 P w K mg base ["near", "start", "goal", "came", "ready", "further", "place", "other", "way"] "way_about" (au fB) f cdv A outer s H E).nox.A.units+1<cLine:=oJ hr
 have kl:∀{d:Nat} {C:List (Int×V)} {Y F:List Int},Rnd ns sa gb d C Y F->C.length<=m:=λ{d C Y F} I=>by
  have:=fC I.nd (m:=m) λv hv=>by
   rcases (I.key v).mp hv with ⟨k,_,wk⟩ | z
   ·exact wk.rng O hs
   ·exact (I.fur v z).1.rng O hs
  rwa [Ex] at this
 refine xW ((bA fB).drop 3) (λσ H'=>∃(c5 c6 c7:Option V) (dd y:Addr) (d:Nat) (C:List (Int×V)) (Y:List Int),σ=[some (.ref n),some (.int sa),some (.int gb),some (.ref dd),some (.ref y),c5,c6,c7,none]/\H dd=none/\az H H'/\H' dd=some (.dK (mp C))/\H' y=some (.lst (Y.map V.int))/\Rnd ns sa gb d C Y []/\(Y=[]\/gb∈C.map (·.1))) ?hT λtT pT mT =>?gT
 case hT =>
  refine ⟨_,(ah (aU (dJ (kE hu (pv 2) (pv 3))) (aq (aF cU)) aM)
  (ah (aB (i:=8) bI.nd rfl (Or.inl rfl) (cy ag))
  (ah (aB (i:=6) bI.nd rfl (Or.inl rfl) (pv 2))
  (ah (gr Fp (aA l8 (pv 6) cU (aK _))
   (ah (da (gA FY Ga Gb cg (pv 8) (aa (pv 6) ag rfl)))
   (aq (aB (i:=6) bI.nd rfl (Or.inl rfl) (eC hu (pv 3) (pv 6) (λ_ _=>rfl))))))
  (aq (aF (bq aZ rfl B.b_tuple cR (aa (pv 8) ag rfl)))))))),?_⟩
  rintro σ H' ⟨c5,c6,c7,dd,y,d,C,Y,rfl,hdd,s',ed,ey,I,h2⟩
  refine ⟨_,rfl,_,rfl,dd,_,rfl,i5.k (k:=Sum.inl gb) ed,_,rfl,?_⟩
  rw[zO]
  by_cases hg:gb∈C.map (·.1)
  ·rw[decide_eq_true hg]
   refine aQ ⟨(by show 0<=ES;decide),λwy hwy =>?_⟩
   have g2:=ak hwy (.lst [])
   have ew:upd H' wy (.lst []) wy=some (.lst (([]:List Int).map V.int)):=ai
   have ed2:=g2 _ _ ed
   have hw0:=s'.free hwy
   have ndw:dd≠wy:=aJ ed hwy
   have s2:=s'.trans g2
   generalize upd H' wy (.lst [])=H2 at g2 ew ed2 s2
   obtain ⟨NN,hN,dN⟩:=I.dst hg
   refine ⟨_,rfl,?_⟩
   refine gu (λσ H'=>∃(x:V) (W Z:List Int),σ=[some (.ref n),some (.int sa),some (.int gb),some (.ref dd),some (.ref y),c5,some x,c7,some (.ref wy)]/\az H H'/\H' dd=some (.dK (mp C))/\H' wy=some (.lst (W.map V.int))/\Trl ns sa gb NN Z/\((∃(p:Int) (k:Nat),x = .int p/\Z=W++[p]/\Dst (stp ns sa gb) sa k p/\k+W.length=NN)\/(x = .non/\Z=W/\Z.length=NN+1)))
    (λσ H'=>NN+1-Bx H' wy) ⟨_,[],[gb],rfl,s2,ed2,ew,Trl.start dN,.inl ⟨gb,NN,rfl,rfl,dN,rfl⟩⟩ ?_ ?_
   ·rintro σ H3 ⟨x,W,Z,rfl,s3,ed3,ew3,tr,cs⟩
    have yw:=vF ew3
    rw[Ex] at yw
    rcases cs with ⟨p,k,rfl,rfl,dp,kW⟩ | ⟨rfl,rfl,lZ⟩
    ·refine ⟨_,rfl,rfl,_,rfl,aP ?_⟩
     refine ⟨_,rfl,.inl ⟨rfl,_,SqL.of ew3⟩,_,rfl,wy,_,_,rfl,rfl,ew3,by rw[Ex];exact ik (by have:=fC tr.inj (tr.rng O hs);rw[EE] at this;lia),?_⟩
     have ew4:upd H3 wy (.lst (W.map V.int++[.int p])) wy=some (.lst ((W++[p]).map V.int)):=by rw[ai,ER];rfl
     have ed4:upd H3 wy (.lst (W.map V.int++[.int p])) dd=some (.dK (mp C)):=by rw[aH ndw];exact ed3
     have s4:=az.cF s3 hw0 (.lst (W.map V.int++[.int p]))
     generalize upd H3 wy (.lst (W.map V.int++[.int p]))=H4 at ew4 ed4 s4
     have y4:=vF ew4
     rw[Ex,EE] at y4
     have y4':Bx H4 wy=W.length+1:=y4
     obtain ⟨x,hx,ex⟩:=C6 ((I.key p).mpr (.inl ⟨k,by lia,dp.1⟩))
     refine ⟨_,rfl,_,rfl,dd,x,rfl,?_,⟨x,W++[p],?_⟩,by rw[yw,y4'];lia⟩
     ·have:=i5.k (k:=Sum.inl p) ed4
      rw[ex] at this
      exact this
     rcases I.ent _ hx with ⟨e1,e2⟩ | ⟨p',k',e2,d1,d2,st⟩
     ·have k0:k=0:=dp.uniq (b:=0) (by rw[show p=sa from e1];exact ⟨.z,λj hj=>absurd hj (HZ _)⟩)
      refine ⟨W++[p],rfl,s4,ed4,ew4,tr,.inr ⟨e2,rfl,by rw[EE];show W.length+1=_;lia⟩⟩
     ·have kk:k=k'+1:=dp.uniq d2
      refine ⟨W++[p]++[p'],rfl,s4,ed4,ew4,tr.add (by lia) d1 st,.inl ⟨p',k',e2,rfl,d1,by rw[EE];show k'+(W.length+1)=_;lia⟩⟩
    ·refine ⟨_,rfl,rfl,_,rfl,aQ ?_⟩
     refine ⟨_,rfl,wy,_,rfl,.inl ⟨SqL.of ew3,λz hz=>q1 z _ NN Z (s3.trans (ak hz _)) ai ⟨tr,lZ⟩⟩⟩
   ·rintro σ H Q Q' h ⟨v,e,k,c,t,q⟩;exact ⟨v,e,k,c,t,h _ _ q⟩
  ·rw[decide_eq_false hg]
   have hY:Y=[]:=h2.resolve_right hg
   subst hY
   exact aP (q0 H' s' λk wk=>hg (I.stop wk))
 case gT =>
 refine ⟨_,(ah (aB (i:=3) bI.nd rfl (Or.inl rfl) (Bh (zg (pv 1) cU Bg) rfl rfl (by simp) (by decide)))
  (ah (aB (i:=4) bI.nd rfl (Or.inl rfl) (cy (aa (pv 1) ag rfl)))
  (ah (gr Fp (PW.pt (cK (yH (pv 4) (λ_=>rfl)) (bX (dJ (kE hu (pv 2) (pv 3))))))
   (ah (aB (i:=5) bI.nd rfl (Or.inl rfl) (cy ag))
   (ah (bB Fp rfl (bp (pv 4)) (aE (i:=6) bI.nd rfl (Or.inl rfl))
    (aq (bB Fp rfl (bp (ax bz (pv 0) (pv 6) (λ_ _=>rfl))) (aE (i:=7) bI.nd rfl (Or.inl rfl))
     (aq (aU (PW.pt (cK (dJ (kE hu (pv 7) (pv 3))) (bX (PW.pt (gm (aA lD (pv 6) (pv 1) (aK _)) (fM (aA lD (pv 7) (pv 2) (aK _)))))))) (ah (iA hu (pv 3) (pv 7) (pv 6) rfl)
      (aq (da (gA FY Ga Gb cg (pv 5) (aa (pv 7) ag rfl))))) aM)) (λ_=>rfl))) (λ_=>rfl))
   (aq (aB (i:=4) bI.nd rfl (Or.inl rfl) (pv 5))))))
  pT))),?_⟩
 refine λdd hdd=>⟨_,rfl,ai,[(Sum.inl sa,.non)],rfl,(by show 1<=15;decide),?_⟩
 have e1d:upd (upd H dd (.dK [])) dd (.dK (gH [] [(Sum.inl sa,V.non)])) dd=some (.dK (mp [(sa,.non)])):=ai
 have s1:az H (upd (upd H dd (.dK [])) dd (.dK (gH [] [(Sum.inl sa,V.non)]))):=λb o e=>by
  rw[aH (aJ e hdd),aH (aJ e hdd)];exact e
 generalize upd (upd H dd (.dK [])) dd (.dK (gH [] [(Sum.inl sa,V.non)]))=H1 at e1d s1
 refine ⟨_,rfl,(by show 1<=ES;decide),λy hy =>?_⟩
 have g2:=ak hy (.lst [.int sa])
 have e2y:upd H1 y (.lst [.int sa]) y=some (.lst (([sa]:List Int).map V.int)):=ai
 have e2d:=g2 _ _ e1d
 have s2:=s1.trans g2
 generalize upd H1 y (.lst [.int sa])=H2 at g2 e2y e2d s2
 refine gu (λσ H'=>∃(c5 c6 c7:Option V) (y:Addr) (d:Nat) (C:List (Int×V)) (Y:List Int),σ=[some (.ref n),some (.int sa),some (.int gb),some (.ref dd),some (.ref y),c5,c6,c7,none]/\az H H'/\H' dd=some (.dK (mp C))/\H' y=some (.lst (Y.map V.int))/\Rnd ns sa gb d C Y [])
  (λσ H'=>2*(m-zN H' dd)+yl σ H') ⟨_,_,_,y,0,_,_,rfl,s2,e2d,e2y,Rnd.start ns sa gb⟩ ?_ ?_
 ·rintro σ H' ⟨c5,c6,c7,y,d,C,Y,rfl,s',ed,ey,I⟩
  refine ⟨_,rfl, !(Y.map V.int).isEmpty,.inl ⟨_,SqL.of ey,rfl⟩,?_⟩
  by_cases hY:Y=[]
  ·have fin:=mT _ _ ⟨c5,c6,c7,dd,y,d,C,Y,rfl,hdd,s',ed,ey,I,.inl hY⟩
   subst hY
   exact aQ fin
  rw[show (!(Y.map V.int).isEmpty)=true by cases Y with | nil=>exact absurd rfl hY | cons a t=>rfl]
  refine aP ⟨_,rfl,_,rfl,dd,_,rfl,i5.k (k:=Sum.inl gb) ed,_,rfl,?_⟩
  rw[zO]
  by_cases hg:gb∈C.map (·.1)
  ·rw[decide_eq_true hg]
   exact aQ (mT _ _ ⟨c5,c6,c7,dd,y,d,C,Y,rfl,hdd,s',ed,ey,I,.inr hg⟩)
  rw[decide_eq_false hg]
  refine aP ⟨(by show 0<=ES;decide),λfu hfu =>?_⟩
  have hf0:=s'.free hfu
  have g3:=ak hfu (.lst [])
  have ef:upd H' fu (.lst []) fu=some (.lst (([]:List Int).map V.int)):=ai
  have ed3:=g3 _ _ ed
  have ey3:=g3 _ _ ey
  have ndf:dd≠fu:=aJ ed hfu
  have nyf:y≠fu:=aJ ey hfu
  have s3:=s'.trans g3
  have nyd:y≠dd:=lC ey ed (by intro z;cases z)
  have mu0:2*(m-zN H' dd)+yl [some (.ref n),some (.int sa),some (.int gb),some (.ref dd),some (.ref y),c5,c6,c7,none] H'=2*(m-C.length)+1:=by
   rw[vE ed,uH,Cd ey,if_neg (by simpa using hY)]
  rw[mu0]
  generalize upd H' fu (.lst [])=H3 at g3 ef ed3 ey3 s3
  have kC:=kl I
  let W3:Nat->St->Hp->Prop:=λi σ H4=>∃(c6 c7:Option V) (C4:List (Int×V)) (F4:List Int),σ=[some (.ref n),some (.int sa),some (.int gb),some (.ref dd),some (.ref y),some (.ref fu),c6,c7,none]/\az H H4/\H4 dd=some (.dK (mp C4))/\H4 y=some (.lst (Y.map V.int))/\H4 fu=some (.lst (F4.map V.int))/\Rnd ns sa gb d C4 Y F4/\C4.length=C.length+F4.length/\∀p∈Y.take i,∀o,stp ns sa gb p o->o∈C4.map (·.1)
  refine ⟨_,rfl,y,rfl,⟨_,SqL.of ey3⟩,cM (xs:=Y.map V.int) W3
   ⟨_,_,C,[],rfl,s3,ed3,ey3,ef,I,rfl,λp hp=>by simp at hp⟩ (λi σ H4 _ z =>?_) ?_ ?_⟩
  ·obtain ⟨_,_,_,_,_,_,_,e,_⟩:=z
   exact SqL.of e
  ·rintro i x σ H4 hx ⟨c6,c7,C4,F4,rfl,s4,ed4,ey4,ef4,I4,l4,cl4⟩
   obtain ⟨p,ep,rfl⟩:=eD hx
   have pY:=EH ep
   have pr:=((I4.rdy p).mp pY).1.rng O hs
   obtain ⟨pn,rfl⟩:∃k:Nat,p=k:=⟨p.toNat,by lia⟩
   have N4:=N.same s4
   have pl:pn<os.length:=by rw[N.len];lia
   obtain ⟨uu,eu⟩:∃u,os[pn]? = some u:=⟨_,EA pl⟩
   have rowu:=N4.row _ (EH eu)
   have isu:=N.is pn _ eu
   refine ⟨_,rfl,_,rfl,n,_,(pn:Int),_,rfl,rfl,SqL.of N4.at',cC (by rw[ET,eu];rfl),uu.1,rfl,⟨_,SqL.of rowu⟩,cM (xs:=uu.2.map V.int)
    (λj σ H5=>∃(c7:Option V) (C5:List (Int×V)) (F5:List Int),σ=[some (.ref n),some (.int sa),some (.int gb),some (.ref dd),some (.ref y),some (.ref fu),some (.int pn),c7,none]/\az H H5/\H5 dd=some (.dK (mp C5))/\H5 y=some (.lst (Y.map V.int))/\H5 fu=some (.lst (F5.map V.int))/\Rnd ns sa gb d C5 Y F5/\C5.length=C.length+F5.length/\(∀p∈Y.take i,∀o,stp ns sa gb p o->o∈C5.map (·.1))/\∀o∈uu.2.take j,stp ns sa gb pn o->o∈C5.map (·.1))
    ⟨_,C4,F4,rfl,s4,ed4,ey4,ef4,I4,l4,cl4,λo ho=>by simp at ho⟩ (λj σ H5 _ z =>?_) ?_ ?_⟩
   ·obtain ⟨_,_,_,_,s5,_⟩:=z
    exact SqL.of ((N.same s5).row _ (EH eu))
   ·rintro j x σ H5 hx ⟨c7,C5,F5,rfl,s5,ed5,ey5,ef5,I5,l5,cl5,tk5⟩
    obtain ⟨o,eo,rfl⟩:=eD hx
    have ao:Adj ns pn o:=(isu o).mp (EH eo)
    refine ⟨_,rfl,_,rfl,dd,_,rfl,i5.k (k:=Sum.inl o) ed5,_,rfl,?_⟩
    rw[zO]
    by_cases ho:o∈C5.map (·.1)
    ·rw[decide_eq_true ho]
     refine aQ (aQ ⟨_,C5,F5,rfl,s5,ed5,ey5,ef5,I5,l5,cl5,λo' h' st =>?_⟩)
     rcases iE eo h' with z | z
     ·exact tk5 o' z st
     ·rw[z];exact ho
    rw[decide_eq_false ho]
    have k5:=kl I5
    have hd:oo H5 dd (.int o) (.int pn) (upd H5 dd (.dK (putK (mp C5) (Sum.inl o) (.int pn)))):=oo.k (k:=Sum.inl o) ed5 (by rw[uH];exact dD (by lia))
    rw[C7 ho] at hd
    have ed6:upd H5 dd (.dK (mp (C5++[(o,.int pn)]))) dd=some (.dK (mp (C5++[(o,.int pn)]))):=ai
    have ef6:upd H5 dd (.dK (mp (C5++[(o,.int pn)]))) fu=some (.lst (F5.map V.int)):=by rw[aH (Gn ndf)];exact ef5
    have ey6:upd H5 dd (.dK (mp (C5++[(o,.int pn)]))) y=some (.lst (Y.map V.int)):=by rw[aH nyd];exact ey5
    have s6:=az.cF s5 hdd (.dK (mp (C5++[(o,.int pn)])))
    generalize upd H5 dd (.dK (mp (C5++[(o,.int pn)])))=H6 at hd ed6 ef6 ey6 s6
    have fin:stp ns sa gb pn o->∃(c7:Option V) (C5:List (Int×V)) (F5':List Int),[some (.ref n),some (.int sa),some (.int gb),some (.ref dd),some (.ref y),some (.ref fu),some (.int pn),some (.int o),none]=[some (.ref n),some (.int sa),some (.int gb),some (.ref dd),some (.ref y),some (.ref fu),some (.int pn),c7,none]/\az H (upd H6 fu (.lst (F5.map V.int++[.int o])))/\(upd H6 fu (.lst (F5.map V.int++[.int o]))) dd=some (.dK (mp C5))/\(upd H6 fu (.lst (F5.map V.int++[.int o]))) y=some (.lst (Y.map V.int))/\(upd H6 fu (.lst (F5.map V.int++[.int o]))) fu=some (.lst (F5'.map V.int))/\Rnd ns sa gb d C5 Y F5'/\C5.length=C.length+F5'.length/\(∀p∈Y.take i,∀o,stp ns sa gb p o->o∈C5.map (·.1))/\∀o∈uu.2.take (j+1),stp ns sa gb pn o->o∈C5.map (·.1):=λst=>by
     refine ⟨_,C5++[(o,.int pn)],F5++[o],rfl,az.cF s6 hf0 _,by rw[aH ndf];exact ed6,by rw[aH nyf];exact ey6,by rw[ai,ER];rfl,I5.add pY st ho,by rw[EE,EE,l5];rfl,λp' hp' o' st' =>?_,λo' h' st' =>?_⟩
     ·rw[ER];exact F6 _ (cl5 p' hp' o' st')
     ·rw[ER]
      rcases iE eo h' with z | z
      ·exact F6 _ (tk5 o' z st')
      ·rw[z];exact E5 _ (by simp)
    have lf:F5.length<=400:=by lia
    refine aP ⟨_,rfl,_,rfl,rfl,_,rfl,dE (λz =>?_) λz=>⟨_,rfl,_,rfl,rfl,_,rfl,dE (λz2 =>?_) λz2 =>?_⟩⟩
    ·have h1:(pn:Int)≠sa:=by simpa using z
     exact aP ⟨_,rfl,_,rfl,_,rfl,dd,_,rfl,hd,_,rfl,.inl ⟨rfl,_,SqL.of ef6⟩,_,rfl,fu,_,_,rfl,rfl,ef6,by rw[Ex];exact dD (by lia),fin ⟨ao,.inl h1⟩⟩
    ·have h1:o≠gb:=by simpa using z2
     exact ⟨_,rfl,_,rfl,_,rfl,dd,_,rfl,hd,_,rfl,.inl ⟨rfl,_,SqL.of ef6⟩,_,rfl,fu,_,_,rfl,rfl,ef6,by rw[Ex];exact dD (by lia),fin ⟨ao,.inr h1⟩⟩
    ·refine ⟨_,C5,F5,rfl,s5,ed5,ey5,ef5,I5,l5,cl5,λo' h' st =>?_⟩
     rcases iE eo h' with y' | y'
     ·exact tk5 o' y' st
     ·subst y'
      have h1:(pn:Int)=sa:=by simpa using z
      have h2:o'=gb:=by simpa using z2
      exact absurd st.2 (by simp[h1,h2])
   ·rintro σ H5 ⟨c7,C5,F5,rfl,s5,ed5,ey5,ef5,I5,l5,cl5,tk5⟩
    rw[Ex,Fv (EI _)] at tk5
    refine ⟨_,_,C5,F5,rfl,s5,ed5,ey5,ef5,I5,l5,λp' hp' o st =>?_⟩
    rcases iE ep hp' with z | z
    ·exact cl5 p' z o st
    ·subst z
     exact tk5 o ((isu o).mpr st.1) st
  ·rintro σ H4 ⟨c6,c7,C4,F4,rfl,s4,ed4,ey4,ef4,I4,l4,cl4⟩
   rw[Ex,Fv (EI _)] at cl4
   have I5:=I4.next cl4
   have k4:=kl I4
   refine ⟨_,rfl,⟨_,_,_,fu,d+1,C4,F4,rfl,s4,ed4,ef4,I5⟩,?_⟩
   show 2*(m-zN H4 dd)+yl [some (.ref n),some (.int sa),some (.int gb),some (.ref dd),some (.ref fu),some (.ref fu),c6,c7,none] H4<_
   rw[vE ed4,uH,Cd ef4]
   by_cases hF:F4=[]
   ·subst hF;rw[if_pos (show List.map V.int []=[] from rfl),l4];show 2*(m-(C.length+0))+0<_;lia
   ·rw[if_neg (by simpa using hF),l4]
    have:=Gv.mpr hF
    lia
 ·rintro σ H Q Q' h ⟨v,e,k,t,q⟩
  refine ⟨v,e,k,t,?_⟩
  cases k with
  | false=>exact h _ _ q
  | true =>
   obtain ⟨v,e,v2,e2,a,o,e3,g,c,e4,q⟩:=q
   exact ⟨v,e,v2,e2,a,o,e3,g,c,e4,h _ _ q⟩
end
def xX (ns:List (List Int))(a b:Int):Prop:=a≠b/\ns.count [a,b]<2/\∀k,¬ Wk (stp ns a b) a k b
def Al (ns:List (List Int))(a b:Int)(Z:List Int):Prop:=(a=b/\Z=[a])\/(a≠b/\2<=ns.count [a,b]/\Z=[a,b])\/(a≠b/\ns.count [a,b]<2/\∃N,Way ns a b N Z)
theorem nE {H:Hp}{r:Addr}{m:Nat}{ts:LAz}(W:Wb H r m ts):Ok m (ts.map (·.2)):=λp hp=>by
 obtain ⟨u,hu,rfl⟩:=E9.mp hp
 exact W.pr u hu
theorem Al.ring {m:Nat}{ns:List (List Int)}(O:Ok m ns){a b:Int}(hp:[a,b]∈ns){Z:List Int}(h:Al ns a b Z):Ring m ns Z:=by
 obtain ⟨_,_,e,a0,ab,bm⟩:=O _ hp
 cases e
 rcases h with ⟨rfl,rfl⟩ | ⟨ne,c2,rfl⟩ | ⟨ne,c2,N,w⟩
 ·refine ⟨by simp,by simp,λv hv =>?_,?_,λx y e=>by simp at e⟩
  ·rw[ED] at hv;subst hv;exact ⟨a0,bm⟩
  ·show nrm a a∈ns/\True
   rw[bL ab];exact ⟨hp,trivial⟩
 ·refine ⟨by simp,by simp[ne],λv hv =>?_,?_,λx y e =>?_⟩
  ·rcases EW.mp hv with z | z
   ·subst z;exact ⟨a0,by lia⟩
   ·rw[ED] at z;subst z;exact ⟨by lia,bm⟩
  ·show nrm a b∈ns/\nrm b a∈ns/\True
   rw[bK b a,bL ab];exact ⟨hp,hp,trivial⟩
  ·cases e;rw[bL ab];exact c2
 ·exact w.ring O ne ⟨a0,by lia⟩ (by unfold Td;rw[bL ab];exact hp)
abbrev sH:Sp:=λvs H Q _=>∃(r n t:Addr) (m:Nat) (ts os:LAz) (a b:Int),vs=[.ref r,.ref n,.ref t]/\Wb H r m ts/\kO H n m (ts.map (·.2)) os/\m<=400/\H t=some (.tup [.int a,.int b])/\[a,b]∈ts.map (·.2)/\(∀H',az H H'->xX (ts.map (·.2)) a b->Q .non H')/\∀(z:Addr) (H':Hp) (Z:List Int),az H H'->H' z=some (.tup (Z.map V.int))->Al (ts.map (·.2)) a b Z->Q (.ref z) H'
@[irreducible] def mi:Sp:=sH
theorem gS {vs:List V}{H:Hp}{Q:VK}{E:XK}:mi vs H Q E↔sH vs H Q E:=by
 delta mi
 exact Ge
section
theorem sI:aG ["web", "near", "tie"] ["web", "near", "tie"] (au i8):=⟨rfl,rfl,rfl,by decide +kernel,rfl,by decide +kernel,by decide +kernel⟩
theorem sJ (F:Fun K "ring_along" "ring_along" i8 f fd)(B:Blt mg)(cWayAbout:Cal P w K mg base 1 "way_about" ["near", "start", "goal"] vG)(cTiedTimes:Cal P w K mg base 2 "tied_times" ["web", "one", "other"] jV):aV P w K mg base CX0 3 f fd ["web", "near", "tie"] mi:=by
 refine F.ok sI (λvs H Q E h =>?_) (λcdv A outer s H vs Q E hr h =>?_)
 ·obtain ⟨_,_,_,_,_,_,_,_,rfl,_⟩:=gS.mp h
  rfl
 obtain ⟨r,n,t,m,ts,os,a,b,rfl,W,N,m4,et,hp,q0,q1⟩:=gS.mp h
 refine ⟨_,(ah (aU (aA bN (ax av (pv 2) ae (λ_ _=>rfl)) (ax av (pv 2) ae (λ_ _=>rfl)) (aK _)) (aq (aF (bw (aa (ax av (pv 2) ae (λ_ _=>rfl)) ag rfl)))) aM)
  (ah (aU (aA vb (ay cTiedTimes hr (by decide) rfl (aa (pv 0) (aa (ax av (pv 2) ae (λ_ _=>rfl)) (aa (ax av (pv 2) ae (λ_ _=>rfl)) ag rfl) rfl) rfl)) ae (aK _)) (aq (aF (pv 2))) aM)
  (aq (aF (ay cWayAbout hr (by decide) rfl (aa (pv 1) (aa (ax av (pv 2) ae (λ_ _=>rfl)) (aa (ax av (pv 2) ae (λ_ _=>rfl)) ag rfl) rfl) rfl)))))),?_⟩
 have O:=nE W
 obtain ⟨_,_,e,a0,ab,bm⟩:=O _ hp
 cases e
 refine ⟨_,rfl,t,_,0,_,rfl,rfl,SqT.of et,rfl,_,rfl,t,_,1,_,rfl,rfl,SqT.of et,rfl,rfl,_,rfl,dE (λz =>?_) λz =>?_⟩
 ·have eq:a=b:=by simpa using z
  exact ⟨_,rfl,t,_,0,_,rfl,rfl,SqT.of et,rfl,(by show 1<=ES;decide),λz hz=>q1 z _ [a] (ak hz _) ai (.inl ⟨eq,rfl⟩)⟩
 have ne:a≠b:=by simpa using z
 refine ⟨_,rfl,_,rfl,t,_,0,_,rfl,rfl,SqT.of et,rfl,_,rfl,t,_,1,_,rfl,rfl,SqT.of et,rfl,dy.mpr ⟨r,m,a,b,ts,rfl,W,λH1 s1 =>?_⟩⟩
 rw[bL ab]
 refine ⟨_,_,rfl,rfl,_,rfl,dE (λz =>?_) λz =>?_⟩
 ·have c2:2<=(ts.map (·.2)).count [a,b]:=by have z':=of_decide_eq_true z;lia
  exact ⟨_,rfl,q1 t H1 [a,b] s1 (s1 _ _ et) (.inr (.inl ⟨ne,c2,rfl⟩))⟩
 have c2:(ts.map (·.2)).count [a,b]<2:=by have z':=of_decide_eq_false (eq_false_of_ne_true z);lia
 refine ⟨_,rfl,_,rfl,t,_,0,_,rfl,rfl,SqT.of (s1 _ _ et),rfl,_,rfl,t,_,1,_,rfl,rfl,SqT.of (s1 _ _ et),rfl,kQ.mpr ⟨n,m,_,os,a,b,rfl,N.same s1,O,m4,⟨a0,by lia⟩,ne,λH2 s2 no=>q0 H2 (s1.trans s2) ⟨ne,c2,no⟩,λz H2 NN Z s2 ez w=>q1 z H2 Z (s1.trans s2) ez (.inr (.inr ⟨ne,c2,NN,w⟩))⟩⟩
end
def enc:Option (Addr×List Int)->V
 | none =>.non
 | some u =>.ref u.1
def keep (ws:List (Option (Addr×List Int))):LAz:=ws.filterMap id
theorem jX {ws:List (Option (Addr×List Int))}{u:Addr×List Int}:u∈keep ws↔some u∈ws:=by
 unfold keep
 rw[Iw]
 exact ⟨λ⟨a,h,e⟩=>by rw[<- show a=some u from e];exact h,λh=>⟨some u,h,rfl⟩⟩
abbrev sL:Sp:=λvs H Q _=>∃(l:Addr) (ws:List (Option (Addr×List Int))),vs=[.ref l]/\H l=some (.lst (ws.map enc))/\(∀u,some u∈ws->H u.1=some (.tup (u.2.map V.int)))/\ws.length<=1000/\(∀H',az H H'->(∀x∈ws,x=none)->Q .non H')/\∀(u:Addr×List Int) (H':Hp),az H H'->some u∈ws->(∀v,some v∈ws->u.2.length<=v.2.length)->Q (.ref u.1) H'
@[irreducible] def mj:Sp:=sL
theorem gW {vs:List V}{H:Hp}{Q:VK}{E:XK}:mj vs H Q E↔sL vs H Q E:=by
 delta mj
 exact Ge
section
theorem qC:aG ["ways"] ["ways"] (au gL):=⟨rfl,rfl,rfl,by decide +kernel,rfl,by decide +kernel,by decide +kernel⟩
theorem kR:(["way"]:List Str).Nodup:=by decide +kernel
theorem qD (F:Fun K "shortest_of" "shortest_of" gL f fd)(B:Blt mg):aV P w K mg base CX0 1 f fd ["ways"] mj:=by
 refine F.ok qC (λvs H Q E h =>?_) (λcdv A outer s H vs Q E hr h =>?_)
 ·obtain ⟨_,_,rfl,_⟩:=gW.mp h
  rfl
 obtain ⟨l,ws,rfl,el,tu,l9,q0,q1⟩:=gW.mp h
 refine ⟨_,(aq (aF (xS rfl rfl B.b_min rfl B.b_len kN (bc ["way"] [none] rfl (bp (pv 0)) rfl (λ_ _ _ _ _=>(aE (i:=0) kR rfl (Or.inl rfl))) (λ_ _ _ _ _=>(dO (aA l8 (pv 0) cU (aK _)))) (λ_ _ _ _ _=>(pv 0)))))),?_⟩
 refine ⟨_,rfl,l,rfl,⟨_,SqL.of el⟩,bx (xs:=ws.map enc) (λi ys H'=>H'=H/\ys=(keep (ws.take i)).map λu =>.ref u.1) ⟨rfl,rfl⟩ (by rw[Ex];exact small l9) (λi ys H' _ z=>by rw[z.1];exact SqL.of el) ?_ ?_⟩
 ·rintro i x ys H3 hx hy ⟨eH,rfl⟩ R1 R0 r1 r0
  rw[ET] at hx
  cases z:ws[i]? with
  | none=>rw[z] at hx;cases hx
  | some o =>
   rw[z] at hx
   have hx:enc o=x:=EX hx
   subst hx
   cases o with
   | none =>
    refine ⟨_,rfl,rfl,_,rfl,aQ (r0 _ ⟨eH,?_⟩)⟩
    unfold keep
    rw[FW,z,JC]
    show _=((ws.take i).filterMap id++[]).map _
    rw[FQ]
   | some u =>
    refine ⟨_,rfl,rfl,_,rfl,aP ⟨_,rfl,r1 _ _ ⟨eH,?_⟩⟩⟩
    unfold keep
    rw[FW,z,JC,ER];rfl
 ·rintro ys H3 hy ⟨eH,rfl⟩ l2 hl2
  rw[eH] at hl2 ⊢
  rw[Ex,Fv (EI _)]
  have g2:=ak hl2 (.lst ((keep ws).map λu =>.ref u.1))
  refine ⟨l2,keep ws,rfl,SqL.of ai,λt ht=>SqT.of (g2 _ _ (tu t (jX.mp ht))),λz=>q0 _ g2 λx hx =>?_,λt ht mn=>q1 t _ g2 (jX.mp ht) λv hv=>mn v (jX.mpr hv)⟩
  cases x with
  | none=>rfl
  | some u =>
   have:=jX.mpr hx
   rw[z] at this;cases this
end
def C9 (ns:List (List Int))(p:List Int)(o:Option (Addr×List Int)):Prop:=∀a b:Int,p=[a,b]->(o=none/\xX ns a b)\/∃u,o=some u/\Al ns a b u.2
abbrev zQ:Sp:=λvs H Q _=>∃(r t:Addr) (m:Nat) (ts us:LAz),vs=[.ref r,.ref t]/\Wb H r m ts/\m<=400/\(H t=some (.lst (us.map λu =>.ref u.1))\/H t=some (.tup (us.map λu =>.ref u.1)))/\(∀u∈us,u∈ts)/\us.length<=60/\(∀H',az H H'->(∀u∈us,∀a b,u.2=[a,b]->xX (ts.map (·.2)) a b)->Q .non H')/\∀(z:Addr) (H':Hp) (Z:List Int) (M:Int),az H H'->H' z=some (.tup ((frm Z M).map V.int))->M∈Z->(∀b∈Z,M<=b)->(∃u∈us,∃a b,u.2=[a,b]/\Al (ts.map (·.2)) a b Z)->(∀u∈us,∀a b,u.2=[a,b]->xX (ts.map (·.2)) a b\/∃Z',Al (ts.map (·.2)) a b Z'/\Z.length<=Z'.length)->Q (.ref z) H'
@[irreducible] def vH:Sp:=zQ
theorem kS {vs:List V}{H:Hp}{Q:VK}{E:XK}:vH vs H Q E↔zQ vs H Q E:=by
 delta vH
 exact Ge
section
theorem fW:aG ["web", "ties", "near", "least"] ["web", "ties"] (au gM):=⟨rfl,rfl,rfl,by decide +kernel,rfl,by decide +kernel,by decide +kernel⟩
theorem d7:(["tie", "web", "near"]:List Str).Nodup:=by decide +kernel
theorem qE (F:Fun K "least_along" "least_along" gM f fd)(B:Blt mg)(cNearLists:Cal P w K mg base 1 "near_lists" ["web"] mh)(cShortestOf:Cal P w K mg base 1 "shortest_of" ["ways"] mj)(cRingForm:Cal P w K mg base 1 "ring_form" ["ring"] kP)(cRingAlong:Cal P w K mg base 3 "ring_along" ["web", "near", "tie"] mi):aV P w K mg base CX0 4 f fd ["web", "ties"] vH:=by
 refine F.ok fW (λvs H Q E h =>?_) (λcdv A outer s H vs Q E hr h =>?_)
 ·obtain ⟨_,_,_,_,_,rfl,_⟩:=kS.mp h
  rfl
 obtain ⟨r,t,m,ts,us,rfl,W,m4,ht,hin,l2,q0,q1⟩:=kS.mp h
 refine ⟨_,(ah (aB (i:=2) fW.nd rfl (Or.inr rfl) (ay cNearLists hr (by decide) rfl (aa (pv 0) ag rfl)))
  (ah (aB (i:=3) fW.nd rfl (Or.inl rfl) (ay cShortestOf hr (by decide) rfl (aa (bc ["tie", "web", "near"] [none,some 0,some 2] rfl (bp (aI (gE (w:=w) rfl hr.hd) rfl B.b_sorted iC (aa (bq (m6 (w:=w) rfl hr.hd hr.units) rfl B.b_set zJ (aa (pv 1) ag rfl)) ag rfl))) rfl (λ_ _ _ _ _=>(aE (i:=0) d7 rfl (Or.inl rfl))) (λ_ _ _ _ _=>cf) (λ_ _ _ _ _=>(ay cRingAlong hr (by decide) rfl (aa (pv 1) (aa (pv 2) (aa (pv 0) ag rfl) rfl) rfl)))) ag rfl)))
  (ah (aU (aA tN (pv 3) cU (aK _)) (aq (aF cU)) aM)
  (aq (aF (ay cRingForm hr (by decide) rfl (aa (pv 3) ag rfl))))))),?_⟩
 have O:=nE W
 refine ⟨_,rfl,gR.mpr ⟨r,m,ts,rfl,W,by lia,by lia,λn H1 os s1 en lo ro iso =>?_⟩⟩
 have NA:kO H1 n m (ts.map (·.2)) os:=⟨en,by rw[lo];lia,ro,λj u e=>(iso j u e).2⟩
 have tu1:∀u∈us,H1 u.1=some (.tup (u.2.map V.int)):=λu hu=>s1 _ _ (W.tup u (hin u hu))
 refine ⟨_,rfl,t,us,rfl,ht.elim (λz =>.inl (SqL.of (s1 _ _ z))) (λz =>.inr (SqT.of (s1 _ _ z))),λu hu=>SqT.of (tu1 u hu),by lia,λa ss hna mu ndu cov hlu =>?_⟩
 have ga:=ak hna (eZ w a (ss.map λt =>.ref t.1))
 refine ⟨a,ss,rfl,ai,λu hu=>⟨SqT.of (ga _ _ (tu1 u (mu u hu))),λz =>?_⟩,by lia,λl out hl pm ps =>?_⟩
 ·obtain ⟨x,y,e,_⟩:=W.pr u (hin u (mu u hu))
  rw[z] at e;cases e
 have gl:=ga.trans (ak hl (.lst (out.map λt =>.ref t.1)))
 have el:upd (upd H1 a (eZ w a (ss.map λt =>.ref t.1))) l (.lst (out.map λt =>.ref t.1)) l=some (.lst (out.map λt =>.ref t.1)):=ai
 generalize upd (upd H1 a (eZ w a (ss.map λt =>.ref t.1))) l (.lst (out.map λt =>.ref t.1))=H2 at gl el
 have s2:=s1.trans gl
 have lo2:out.length<=200:=by rw[pm.length_eq];lia
 have oin:∀u∈out,u∈us:=λu hu=>mu u (pm.mem_iff.mp hu)
 let W4:Nat->List V->Hp->Prop:=λi ys H'=>az H2 H'/\∃ws:List (Option (Addr×List Int)),ys=ws.map enc/\ws.length=i/\(∀u,some u∈ws->H' u.1=some (.tup (u.2.map V.int)))/\∀(k:Nat) u o,out[k]? = some u->ws[k]? = some o->C9 (ts.map (·.2)) u.2 o
 refine ⟨l,rfl,⟨_,SqL.of el⟩,bx (xs:=out.map λu =>.ref u.1) W4 ⟨az.refl _,[],rfl,rfl,λu h=>by (cases h),λk u o _ e=>by simp at e⟩ (by rw[Ex];exact small (by lia)) (λi ys H' _ z=>SqL.of (z.1 _ _ el)) ?_ ?_⟩
 ·rintro i x ys H3 hx hy ⟨s3,ws,rfl,lw,tw,tl⟩ R1 R0 r1 r0
  obtain ⟨u,eu,rfl⟩:=item hx
  have uin:=hin u (oin u (EH eu))
  obtain ⟨x,y,exy,_⟩:=W.pr u uin
  have s23:=s2.trans s3
  have eu3:H3 u.1=some (.tup [.int x,.int y]):=by rw[s23 _ _ (W.tup u uin),exy];rfl
  have up:∀(o:Option (Addr×List Int)) (H4:Hp),az H3 H4->(∀v,o=some v->H4 v.1=some (.tup (v.2.map V.int)))->C9 (ts.map (·.2)) u.2 o->R1 (enc o) H4:=λo H4 s4 ho hT=>by
   refine r1 _ _ ⟨s3.trans s4,ws++[o],by rw[ER];rfl,by rw[EE,lw];rfl,λv hv =>?_,λk v p e1 e2 =>?_⟩
   ·rcases EU.mp hv with z | z
    ·exact s4 _ _ (tw v z)
    ·rw[ED] at z;exact ho v z.symm
   ·rcases Ja k i with c | c
    ·rw[E1 (by lia)] at e2;exact tl k v p e1 e2
    ·rw[E6 (by lia)] at e2
     have:k-ws.length=0:=by
      rcases Iz (k-ws.length) with z | z
      ·exact z
      ·rw[Gi (by simp;lia)] at e2;cases e2
     rw[this] at e2;cases e2
     rw[show k=i by lia,eu] at e1;cases e1
     exact hT
  refine aP ⟨_,rfl,_,rfl,_,rfl,gS.mpr ⟨r,n,u.1,m,ts,os,x,y,rfl,W.same s23,NA.same (gl.trans s3),m4,eu3,by rw[<- exy];exact Gu (f:=(·.2)) uin,λH4 s4 no=>up none H4 s4 (λv e=>by cases e) λa b e =>?_,λz H4 Z s4 ez al=>up (some (z,Z)) H4 s4 (λv e=>by cases e;exact ez) λa b e =>?_⟩⟩
  ·rw[exy] at e;cases e;exact .inl ⟨rfl,no⟩
  ·rw[exy] at e;cases e;exact .inr ⟨_,rfl,al⟩
 ·rintro ys H3 hy ⟨s3,ws,rfl,lw,tw,tl⟩ l3 hl3
  rw[Ex] at lw
  obtain ⟨H4,zQ9,g4,el4⟩:=nwZ hl3 (.lst (ws.map enc))
  rw[zQ9]
  have s4:=s2.trans (s3.trans g4)
  have tell:∀u∈us,∃o∈ws,C9 (ts.map (·.2)) u.2 o:=λu hu=>by
   obtain ⟨v,hv,ev⟩:=E9.mp (cov u hu)
   obtain ⟨k,ek⟩:=Hr.mp (pm.mem_iff.mpr hv)
   have kl:=(EJ.mp ek).1
   have ew:ws[k]? = some (ws[k]'(by lia)):=EA (by lia)
   exact ⟨_,EH ew,ev ▸ tl k v _ ek ew⟩
  refine gW.mpr ⟨l3,ws,rfl,el4,λu hu=>g4 _ _ (tw u hu),by lia,λH5 s5 no =>?_,λu H5 s5 hu mn =>?_⟩
  ·refine ⟨_,rfl,rfl,_,rfl,aP (q0 H5 (s4.trans s5) λu hu a b e =>?_)⟩
   obtain ⟨o,ho,hT⟩:=tell u hu
   rw[no o ho] at hT
   rcases hT a b e with ⟨_,z⟩ | ⟨v,e2,_⟩
   ·exact z
   ·cases e2
  ·refine ⟨_,rfl,rfl,_,rfl,aQ ?_⟩
   obtain ⟨k,ek⟩:=Hr.mp hu
   have kl:=(EJ.mp ek).1
   have ev:out[k]? = some (out[k]'(by lia)):=EA (by lia)
   have vin:=oin _ (EH ev)
   obtain ⟨x,y,exy,_⟩:=W.pr _ (hin _ vin)
   rcases tl k _ _ ev ek x y exy with ⟨e,_⟩ | ⟨v,e,al⟩
   ·cases e
   cases e
   have rg:=al.ring O (by rw[<- exy];exact Gu (f:=(·.2)) (hin _ vin))
   refine ⟨_,rfl,cG.mpr ⟨u.1,u.2,rfl,s5 _ _ (g4 _ _ (tw u hu)),rg.ne,?_,λz H6 M s6 hM mM ez=>q1 z H6 u.2 M (s4.trans (s5.trans s6)) ez hM mM ⟨_,vin,x,y,exy,al⟩ λv hv a b e =>?_⟩⟩
   ·have:=fC rg.nd rg.rng;lia
   ·obtain ⟨o,ho,hT⟩:=tell v hv
    rcases hT a b e with ⟨_,z⟩ | ⟨p,e2,al'⟩
    ·exact .inl z
    ·subst e2;exact .inr ⟨p.2,al',mn p ho⟩
end
abbrev sM:Sp:=λvs H Q _=>∃(r:Addr) (m:Nat) (ts:LAz),vs=[.ref r]/\Wb H r m ts/\m<=400/\(∀H',az H H'->(∀a b,[a,b]∈ts.map (·.2)->xX (ts.map (·.2)) a b)->Q .non H')/\∀(z:Addr) (H':Hp) (Z:List Int) (M:Int),az H H'->H' z=some (.tup ((frm Z M).map V.int))->M∈Z->(∀b∈Z,M<=b)->(∃a b,[a,b]∈ts.map (·.2)/\Al (ts.map (·.2)) a b Z)->(∀a b,[a,b]∈ts.map (·.2)->xX (ts.map (·.2)) a b\/∃Z',Al (ts.map (·.2)) a b Z'/\Z.length<=Z'.length)->Q (.ref z) H'
@[irreducible] def ml:Sp:=sM
theorem eE {vs:List V}{H:Hp}{Q:VK}{E:XK}:ml vs H Q E↔sM vs H Q E:=by
 delta ml
 exact Ge
section
theorem sN:aG ["web"] ["web"] (au i9):=⟨rfl,rfl,rfl,by decide +kernel,rfl,by decide +kernel,by decide +kernel⟩
theorem sO (F:Fun K "least_ring" "least_ring" i9 f fd)(B:Blt mg)(cLeastAlong:Cal P w K mg base 4 "least_along" ["web", "ties"] vH):aV P w K mg base CX0 5 f fd ["web"] ml:=by
 refine F.ok sN (λvs H Q E h =>?_) (λcdv A outer s H vs Q E hr h =>?_)
 ·obtain ⟨_,_,_,rfl,_⟩:=eE.mp h
  rfl
 obtain ⟨r,m,ts,rfl,W,m4,q0,q1⟩:=eE.mp h
 refine ⟨_,(aq (aF (ay cLeastAlong hr (by decide) rfl (aa (pv 0) (aa (ax av (pv 0) ae (λ_ _=>rfl)) ag rfl) rfl)))),?_⟩
 obtain ⟨t,e1,e2⟩:=W.at'
 refine ⟨_,rfl,_,rfl,r,_,1,_,rfl,rfl,SqT.of e1,rfl,kS.mpr ⟨r,t,m,ts,ts,rfl,W,m4,.inr e2,λu hu=>hu,W.len,λH' s no=>q0 H' s λa b h =>?_,λz H' Z M s ez hM mM hx hn=>q1 z H' Z M s ez hM mM ?_ λa b h =>?_⟩⟩
 ·obtain ⟨u,hu,e⟩:=E9.mp h
  exact no u hu a b e
 ·obtain ⟨u,hu,a,b,e,al⟩:=hx
  exact ⟨a,b,by rw[<- e];exact Gu (f:=(·.2)) hu,al⟩
 ·obtain ⟨u,hu,e⟩:=E9.mp h
  exact hn u hu a b e
end
theorem bM (ps:List Int):(ps.map V.int).all jG=true:=by
 rw[MA,GI]
 intro x _
 rfl
theorem nG (k:Int):∀ps:List Int,inV (.int k) (ps.map V.int)=decide (k∈ps)
 | []=>by simp[inV]
 | p :: ps=>by
  have ih:=nG k ps
  unfold inV at ih ⊢
  rw[EZ,IG,ih]
  have e:eqV (.int p) (.int k)=(p == k):=rfl
  rw[e]
  by_cases h:p=k
  ·subst h;simp
  ·rw[beq_eq_false_iff_ne.mpr h,L5]
   apply decide_eq_decide.mpr
   rw[EW]
   exact ⟨.inr,λx=>x.elim (λy=>absurd y.symm h) id⟩
theorem Ee:(["tie", "places"]:List Str).Nodup:=by decide +kernel
def off (ps:List Int)(p:List Int):Bool := !decide (p.getD 0 0∈ps) && !decide (p.getD 1 0∈ps)
abbrev zR:Sp:=λvs H Q _=>∃(r p:Addr) (m:Int) (ts:LAz) (ps:List Int),vs=[.ref r,.ref p]/\Wb H r m ts/\(H p=some (.lst (ps.map V.int))\/H p=some (.tup (ps.map V.int))) ∧
 ∀(z:Addr) (us:LAz) (H':Hp),az H H'->Wb H' z m us->us.map (·.2)=(ts.map (·.2)).filter (off ps)->Q (.ref z) H'
@[irreducible] def vI:Sp:=zR
theorem iF {vs:List V}{H:Hp}{Q:VK}{E:XK}:vI vs H Q E↔zR vs H Q E:=by
 delta vI
 exact Ge
section
theorem Ef:aG ["web", "places"] ["web", "places"] (au Ea):=⟨rfl,rfl,rfl,by decide +kernel,rfl,by decide +kernel,by decide +kernel⟩
theorem pz {α β:Type}{g:α -> Bool}{h:α -> β}{l:List α}{i:Nat}{x:α}(e:l[i]? = some x):((l.take (i+1)).filter g).map h=((l.take i).filter g).map h++if g x=true then [h x] else []:=by
 rw[FW,e,Hu,ER]
 congr 1
 show (List.filter g [x]).map h=_
 by_cases c:g x=true
 ·rw[if_pos c,Fw c];rfl
 ·rw[if_neg c,Fs c];rfl
theorem Eg (F:Fun K "cut_web" "cut_web" Ea f fd)(B:Blt mg):aV P w K mg base CX0 1 f fd ["web", "places"] vI:=by
 refine F.ok Ef (λvs H Q E h =>?_) (λcdv A outer s H vs Q E hr h =>?_)
 ·obtain ⟨a,b,c,d,e,rfl,_⟩:=iF.mp h
  rfl
 obtain ⟨r,p,m,ts,ps,rfl,W,hp,q⟩:=iF.mp h
 obtain ⟨t,e1,e2⟩:=W.at'
 refine ⟨_,aq (aF (bw (aa (ax av (pv 0) ae (λ_ _=>rfl)) (aa (bq aZ rfl B.b_tuple PySem.Pv.boot_tuple (aa (bc ["tie", "places"] [none,some 1] rfl (eR (ax av (pv 0) ae (λ_ _=>rfl))) rfl (λ_ _ _ _ _=>aE (i:=0) Ee rfl (Or.inl rfl))
  (λ_ _ _ _ _=>dO (PW.pt (cK (aA (iq (K:=K)) (ax (dh (K:=K)) (pv 0) ae (λ_ _=>rfl)) (pv 1) rfl) (bX (aA (iq (K:=K)) (ax (dh (K:=K)) (pv 0) ae (λ_ _=>rfl)) (pv 1) rfl)))))
  (λ_ _ _ _ _=>pv 0)) ag)) ag)))),?_⟩
 refine ⟨_,rfl,r,_,0,_,rfl,rfl,SqT.of e1,rfl,_,rfl,r,_,1,_,rfl,rfl,SqT.of e1,rfl,t,rfl,⟨_,SqT.of e2⟩,dI (xs:=ts.map λu =>.ref u.1) (λi ys H'=>H'=H/\ys=((ts.take i).filter λu=>off ps u.2).map λu =>.ref u.1) ⟨rfl,rfl⟩ (by rw[Ex];exact small (by have:=W.len;lia)) (λi ys H' _ z=>by rw[z.1];exact SqT.of e2) ?_ ?_⟩
 ·rintro i x ys H3 hx hy ⟨rfl,ey⟩ R1 R0 r1 r0
  obtain ⟨u,eu,rfl⟩:=item hx
  have hu:=W.tup u (EH eu)
  obtain ⟨a,b,e3,_⟩:=W.pr u (EH eu)
  rw[e3] at hu
  have bb:off ps u.2=(!decide (a∈ps) && !decide (b∈ps)):=by rw[e3];rfl
  have g1:off ps u.2=true->R1 (.ref u.1) H3:=λec=>r1 _ _ ⟨rfl,by rw[pz eu,if_pos ec,ey]⟩
  have g0:off ps u.2=false->R0 H3:=λec=>r0 _ ⟨rfl,by rw[pz eu,if_neg (by rw[ec];exact EO),ey,FQ]⟩
  refine ⟨_,rfl,u.1,_,0,_,rfl,rfl,SqT.of hu,rfl,_,rfl,p,_,rfl,(hp.elim (λz =>.inl (SqL.of z)) (λz =>.inr (SqT.of z))),rfl,bM ps,_,rfl,?_⟩
  show if (if true=true then !inV (.int a) (ps.map V.int) else _)=true then _ else _
  rw[if_pos rfl,nG]
  by_cases ha:a∈ps
  ·rw[decide_eq_true ha] at bb ⊢
   exact aQ (aQ (g0 bb))
  ·rw[decide_eq_false ha] at bb ⊢
   refine aP ⟨_,rfl,u.1,_,1,_,rfl,rfl,SqT.of hu,rfl,_,rfl,p,_,rfl,(hp.elim (λz =>.inl (SqL.of z)) (λz =>.inr (SqT.of z))),rfl,bM ps,_,rfl,?_⟩
   show if (if true=true then !inV (.int b) (ps.map V.int) else _)=true then _ else _
   rw[if_pos rfl,nG]
   by_cases hb:b∈ps
   ·rw[decide_eq_true hb] at bb ⊢
    exact aQ (g0 bb)
   ·rw[decide_eq_false hb] at bb ⊢
    exact aP ⟨_,rfl,g1 bb⟩
 ·rintro ys H3 hy ⟨rfl,ey⟩ l hl
  rw[Ex,Fv (EI _)] at ey
  refine ⟨l,_,rfl,.inl ⟨SqL.of ai,λl2 hl2=>⟨(by show 2<=ES;decide),λz hz =>?_⟩⟩⟩
  subst ey
  have g1:=ak hl (.lst ((ts.filter λu=>off ps u.2).map λu=>V.ref u.1))
  have g2:=ak hl2 (.tup ((ts.filter λu=>off ps u.2).map λu=>V.ref u.1))
  have g3:=ak hz (.tup [.int m,.ref l2])
  have g:=(g1.trans g2).trans g3
  refine q z (ts.filter λu=>off ps u.2) _ g ⟨⟨l2,ai,g3 _ _ ai⟩,λu hu=>g _ _ (W.tup u (Fo.mp hu).1),λu hu=>W.pr u (Fo.mp hu).1,?_⟩ ?_
  ·exact Ff (G4 _ _) W.len
  ·rw[Ld];rfl
end
def gc (a b:Int):Int:=(Int.gcd a b:Int)
theorem vJ {a b:Int}:gc b (a%b)=gc a b:=by
 unfold gc
 have e:a%b+b*(a/b)=a:=Int.emod_add_mul_ediv a b
 have h:=Int.gcd_add_mul_left_right b (a%b) (a/b)
 rw[e] at h
 rw[<- h,Int.gcd_comm]
theorem gX {a b:Int}(h:0<b):0<gc a b:=by
 have:=JO a (b:=b) (by lia)
 unfold gc
 lia
theorem zS {a b:Int}(h:0<b):gc a b<=b:=Int.gcd_le_right a h
theorem vK {a:Int}(h:0<=a):gc a 0=a:=by
 unfold gc
 rw[Int.gcd_zero_right]
 lia
def ab (i:Int):Int:=if i<0 then -i else i
theorem Ce (i:Int):0<=ab i:=by unfold ab;split <;> lia
theorem Cf (a b:Int):gc (ab a) b=gc a b:=by
 unfold ab gc
 split
 ·rw[Int.neg_gcd]
 ·rfl
def rt (a b:Int):Int:=a/gc a b
def rb (a b:Int):Int:=b/gc a b
theorem zT (a b:Int):gc a b*rt a b=a:=Lx (Int.gcd_dvd_left a b)
theorem zU (a b:Int):gc a b*rb a b=b:=Lx (Int.gcd_dvd_right a b)
theorem fX {a b:Int}(h:0<b):0<rb a b:=by
 have e:=zU a b
 have p:=gX (a:=a) h
 rcases Int.lt_trichotomy (rb a b) 0 with z | z | z
 ·have:=Int.mul_neg_of_pos_of_neg p z
  lia
 ·rw[z,Int.mul_zero] at e
  lia
 ·exact z
theorem Eh {a b:Int}(h:0<b):gc (rt a b) (rb a b)=1:=by
 have p:0<Int.gcd a b:=JO a (by lia)
 unfold gc rt rb
 unfold gc
 rw[Int.gcd_ediv_gcd_ediv_gcd p]
 rfl
theorem iY {g x y:Int}(h:0<g)(e:g*x=y):x.natAbs<=y.natAbs:=by
 rw[<- e,Iv]
 exact Nat.le_mul_of_pos_left _ (by omega)
theorem dW {a b:Int}(h:0<b):(rt a b).natAbs<=a.natAbs:=iY (gX (a:=a) h) (zT a b)
theorem dX {a b:Int}(h:0<b):(rb a b).natAbs<=b.natAbs:=iY (gX (a:=a) h) (zU a b)
def Sm (i:Int):Prop:=i.natAbs<2 ^ 1000
theorem Sm.wd {i:Int}(h:Sm i):Wd i:=EL h (FG (by decide) (by decide))
theorem Sm.mul {i j:Int}(h:Sm i)(g:Sm j):Wd (i*j):=by
 unfold Wd
 rw[Iv]
 have p:(2:Nat) ^ 1000*2 ^ 1000<=2 ^ 4000:=by
  rw[<- KG]
  exact FG (by decide) (by decide)
 exact EL (Ip h g) p
theorem lM {i j:Int}(h:Sm j)(g:i.natAbs<=j.natAbs):Sm i:=Fb g h
theorem kT (a:Int):rt a 1=a/\rb a 1=1:=by
 have g:gc a 1=1:=by
  have h0:=gX (a:=a) (b:=1) (by decide)
  have h1:=zS (a:=a) (b:=1) (by decide)
  lia
 unfold rt rb
 rw[g]
 exact ⟨Int.ediv_one _,rfl⟩
theorem Dc {a b:Int}:decide (V.int a=V.int b)=decide (a=b):=by
 rw[decide_eq_decide]
 exact ⟨λz=>V.int.inj z,λz=>by rw[z]⟩
def Two (K:Ez)(H:Hp)(p:Addr)(a b:Int):Prop:=SqT K H p [.int a,.int b]
theorem Two.same {K:Ez}{H H':Hp}{p:Addr}{a b:Int}(h:Two K H p a b)(s:az H H'):Two K H' p a b:=by
 rcases h with (h | ⟨o,h⟩) | h
 ·exact .inl (.inl (s _ _ h))
 ·exact .inl (.inr ⟨o,s _ _ h⟩)
 ·exact .inr h
theorem at0 {a b:Int}:atI [V.int a,V.int b] 0=some (.int a):=rfl
theorem at1 {a b:Int}:atI [V.int a,V.int b] 1=some (.int b):=rfl
def jh (a b:Int):Bool:=decide (1<=b) && decide (gc a b=1)
theorem nH {a b:Int}(h:0<b):jh (rt a b) (rb a b)=true:=by
 unfold jh
 rw[decide_eq_true (show 1<=rb a b by have:=fX (a:=a) h;lia),decide_eq_true (Eh h)]
 rfl
abbrev zV:Sp:=λvs H Q _=>∃a b:Int,vs=[.int a,.int b]/\0<b/\Q (.int (gc a b)) H
@[irreducible] def sP:Sp:=zV
theorem iG {vs:List V}{H:Hp}{Q:VK}{E:XK}:sP vs H Q E↔zV vs H Q E:=by
 delta sP
 exact Ge
section
theorem cD:aG ["one", "other", "rest"] ["one", "other"] (au dU):=⟨rfl,rfl,rfl,by decide +kernel,rfl,by decide +kernel,by decide +kernel⟩
theorem lX (F:Fun K "common_divisor" "common_divisor" dU f fd)(B:Blt mg):aV P w K mg base CX0 1 f fd ["one", "other"] sP:=by
 refine F.ok cD (λvs H Q E h =>?_) (λcdv A outer s H vs Q E hr h =>?_)
 ·obtain ⟨_,_,rfl,_⟩:=iG.mp h
  rfl
 obtain ⟨a,b,rfl,h0,q⟩:=iG.mp h
 refine ⟨_,(ah (gr Fp (aA lD (pv 1) ae (aK _))
   (ah (aB (i:=2) cD.nd rfl (Or.inl rfl) (aD cx (pv 0) (pv 1)))
   (ah (aB (i:=0) cD.nd rfl (Or.inl rfl) (pv 1))
   (aq (aB (i:=1) cD.nd rfl (Or.inl rfl) (pv 2))))))
  (aq (aF (aI mH rfl B.b_abs uE (aa (pv 0) ag rfl))))),?_⟩
 refine gu (λσ H'=>∃(x y:Int) (r:Option V),σ=[some (.int x),some (.int y),r]/\H'=H/\0<=y/\gc x y=gc a b/\(y=0->0<=x)) (λσ _=>match σ with | [_,some (.int y),_]=>y.toNat | _=>0) ⟨a,b,none,rfl,rfl,by lia,rfl,by lia⟩ ?_ ?_
 ·rintro σ H' ⟨x,y,r,rfl,rfl,y0,e,x0⟩
  refine ⟨_,rfl,rfl,_,rfl,dE (λc =>?_) (λc =>?_)⟩
  ·have c':y≠0:=by simpa using c
   have yp:0<y:=by lia
   refine ⟨_,rfl,_,rfl,_,_,rfl,rfl,yp,_,rfl,_,rfl,⟨y,x%y,_,rfl,rfl,GF _ c',?_,λ_=>y0⟩,?_⟩
   ·rw[vJ];exact e
   ·show (x%y).toNat<y.toNat
    have:=Gx x yp
    have:=GF x c'
    lia
  ·have c':y=0:=by simpa using c
   subst c'
   refine ⟨_,rfl,x,rfl,?_⟩
   have:=x0 rfl
   rw[vK this] at e
   rw[<- e] at q
   rw[if_neg (by lia)]
   exact q
 ·rintro σ H' Q1 Q2 hQ ⟨v,e1,e2,b,e3,r⟩
  exact ⟨v,e1,e2,b,e3,hQ _ _ r⟩
end
@[irreducible] def l6 (K:Ez):Sp:=λvs H Q _=>∃a b:Int,vs=[.int a,.int b]/\0<b/\Wd b/\∀(p:Addr) (H':Hp),az H H'->Two K H' p (rt a b) (rb a b)->Q (.ref p) H'
theorem bV {K:Ez}{vs:List V}{H:Hp}{Q:VK}{E:XK}:l6 K vs H Q E↔∃a b:Int,vs=[.int a,.int b]/\0<b/\Wd b/\∀(p:Addr) (H':Hp),az H H'->Two K H' p (rt a b) (rb a b)->Q (.ref p) H':=by
 delta l6
 exact Ge
section
theorem pA:aG ["top", "bottom", "divisor"] ["top", "bottom"] (au nj):=⟨rfl,rfl,rfl,by decide +kernel,rfl,by decide +kernel,by decide +kernel⟩
theorem xY (F:zp K "ratio_of" "ratio_of" nj f fd T)(B:Blt mg)(cCommonDivisor:Cal P w K mg base 1 "common_divisor" ["one", "other"] sP):aV P w K mg base CX0 2 f fd ["top", "bottom"] (l6 K):=by
 refine F.ok pA (λvs H Q E h =>?_) (λcdv A outer s H vs Q E hr h =>?_)
 ·obtain ⟨_,_,rfl,_⟩:=bV.mp h
  rfl
 obtain ⟨a,b,rfl,h0,hw,q⟩:=bV.mp h
 refine ⟨_,(ah (aB (i:=2) pA.nd rfl (Or.inl rfl) (ay cCommonDivisor hr (by decide) rfl (aa (pv 0) (aa (pv 1) ag rfl) rfl)))
  (aq (aF (bw (aa (aD gI (pv 0) (pv 2)) (aa (aD gI (pv 1) (pv 2)) ag rfl) rfl))))),?_⟩
 refine ⟨_,rfl,_,rfl,iG.mpr ⟨a,b,rfl,h0,?_⟩⟩
 have gp:=gX (a:=a) h0
 have gl:=zS (a:=a) h0
 have gw:Wd (gc a b):=Fb (by omega) hw
 refine ⟨_,rfl,_,rfl,_,_,rfl,rfl,⟨gp,gw⟩,_,rfl,_,rfl,_,_,rfl,rfl,⟨gp,gw⟩,(by show 2<=ES;decide),λp hp =>?_⟩
 exact q p _ (ak hp _) (SqT.of ai)
end
@[irreducible] def zW (K:Ez):Sp:=λvs H Q _=>∃(p r:Addr) (a b c d:Int),vs=[.ref p,.ref r]/\Two K H p a b/\Two K H r c d/\(0<b/\0<d)/\(Sm a/\Sm b/\Sm c/\Sm d)/\∀(z:Addr) (H':Hp),az H H'->Two K H' z (rt (a*c) (b*d)) (rb (a*c) (b*d))->Q (.ref z) H'
theorem jY {K:Ez}{vs:List V}{H:Hp}{Q:VK}{E:XK}:zW K vs H Q E↔∃(p r:Addr) (a b c d:Int),vs=[.ref p,.ref r]/\Two K H p a b/\Two K H r c d/\(0<b/\0<d)/\(Sm a/\Sm b/\Sm c/\Sm d)/\∀(z:Addr) (H':Hp),az H H'->Two K H' z (rt (a*c) (b*d)) (rb (a*c) (b*d))->Q (.ref z) H':=by
 delta zW
 exact Ge
section
theorem qF:aG ["one", "other"] ["one", "other"] (au gJ):=⟨rfl,rfl,rfl,by decide +kernel,rfl,by decide +kernel,by decide +kernel⟩
theorem qG (F:Fun K "ratio_times" "ratio_times" gJ f fd)(B:Blt mg)(cRatioOf:Cal P w K mg base 2 "ratio_of" ["top", "bottom"] (l6 K)):aV P w K mg base CX0 3 f fd ["one", "other"] (zW K):=by
 refine F.ok qF (λvs H Q E h =>?_) (λcdv A outer s H vs Q E hr h =>?_)
 ·obtain ⟨_,_,_,_,_,_,rfl,_⟩:=jY.mp h
  rfl
 obtain ⟨p,r,a,b,c,d,rfl,hp,hr',⟨h0,h1⟩,⟨sa,sb,sc,sd⟩,q⟩:=jY.mp h
 refine ⟨_,(aq (aF (ay cRatioOf hr (by decide) rfl (aa (aD bQ (ax av (pv 0) ae (λ_ _=>rfl)) (ax av (pv 1) ae (λ_ _=>rfl))) (aa (aD bQ (ax av (pv 0) ae (λ_ _=>rfl)) (ax av (pv 1) ae (λ_ _=>rfl))) ag rfl) rfl)))),?_⟩
 refine ⟨_,rfl,p,_,0,_,rfl,rfl,hp,at0,_,rfl,r,_,0,_,rfl,rfl,hr',at0,_,_,rfl,rfl,⟨sa.wd,sc.wd⟩,
  _,rfl,p,_,1,_,rfl,rfl,hp,at1,_,rfl,r,_,1,_,rfl,rfl,hr',at1,_,_,rfl,rfl,⟨sb.wd,sd.wd⟩,bV.mpr ⟨_,_,rfl,Jr h0 h1,sb.mul sd,λz H' sm t=>q z H' sm t⟩⟩
end
def kU (p q:Int×Int):Int×Int:=(rt (p.1*q.2+q.1*p.2) (p.2*q.2),rb (p.1*q.2+q.1*p.2) (p.2*q.2))
@[irreducible] def BA (K:Ez):Sp:=λvs H Q _=>∃(p:Addr) (a b:Int),vs=[.ref p]/\Two K H p a b/\Q (.bl (jh a b)) H
theorem nI {K:Ez}{vs:List V}{H:Hp}{Q:VK}{E:XK}:BA K vs H Q E↔∃(p:Addr) (a b:Int),vs=[.ref p]/\Two K H p a b/\Q (.bl (jh a b)) H:=by
 delta BA
 exact Ge
section
theorem xZ:aG ["thing"] ["thing"] (au nk):=⟨rfl,rfl,rfl,by decide +kernel,rfl,by decide +kernel,by decide +kernel⟩
theorem x6 (F:Fun K "is_ratio" "is_ratio" nk f fd)(B:Blt mg)(cCommonDivisor:Cal P w K mg base 1 "common_divisor" ["one", "other"] sP):aV P w K mg base CX0 2 f fd ["thing"] (BA K):=by
 refine F.ok xZ (λvs H Q E h =>?_) (λcdv A outer s H vs Q E hr h =>?_)
 ·obtain ⟨_,_,_,rfl,_⟩:=nI.mp h
  rfl
 obtain ⟨p,a,b,rfl,hp,q⟩:=nI.mp h
 refine ⟨_,(aq (aF (kg (de vb (ax av (pv 0) ae (λ_ _=>rfl)) ae (aK _)) (j9 (de bN (ay cCommonDivisor hr (by decide) rfl (aa (ax av (pv 0) ae (λ_ _=>rfl)) (aa (ax av (pv 0) ae (λ_ _=>rfl)) ag rfl) rfl)) ae (aK _)))))),?_⟩
 refine ⟨_,rfl,p,_,1,_,rfl,rfl,hp,at1,_,_,rfl,rfl,_,rfl,?_⟩
 by_cases hb:1<=b
 ·rw[decide_eq_true hb]
  refine aP ⟨_,rfl,p,_,0,_,rfl,rfl,hp,at0,_,rfl,p,_,1,_,rfl,rfl,hp,at1,iG.mpr ⟨a,b,rfl,by lia,rfl,?_⟩⟩
  unfold jh at q
  rw[decide_eq_true hb,KH] at q
  rw[Dc]
  exact q
 ·rw[decide_eq_false hb]
  unfold jh at q
  rw[decide_eq_false hb,GW] at q
  exact aQ q
end
@[irreducible] def nJ (K:Ez):Sp:=λvs H Q _=>∃(p r:Addr) (a b c d:Int),vs=[.ref p,.ref r]/\Two K H p a b/\Two K H r c d/\(Wd a/\Wd b/\Wd c/\Wd d)/\Q (.bl (decide (a*d<c*b))) H
theorem fY {K:Ez}{vs:List V}{H:Hp}{Q:VK}{E:XK}:nJ K vs H Q E↔∃(p r:Addr) (a b c d:Int),vs=[.ref p,.ref r]/\Two K H p a b/\Two K H r c d/\(Wd a/\Wd b/\Wd c/\Wd d)/\Q (.bl (decide (a*d<c*b))) H:=by
 delta nJ
 exact Ge
section
theorem sQ:aG ["one", "other"] ["one", "other"] (au i7):=⟨rfl,rfl,rfl,by decide +kernel,rfl,by decide +kernel,by decide +kernel⟩
theorem sR (F:Fun K "ratio_less" "ratio_less" i7 f fd)(B:Blt mg):aV P w K mg base CX0 1 f fd ["one", "other"] (nJ K):=by
 refine F.ok sQ (λvs H Q E h =>?_) (λcdv A outer s H vs Q E hr h =>?_)
 ·obtain ⟨_,_,_,_,_,_,rfl,_⟩:=fY.mp h
  rfl
 obtain ⟨p,r,a,b,c,d,rfl,hp,hr',⟨sa,sb,sc,sd⟩,q⟩:=fY.mp h
 refine ⟨_,(aq (aF (de oD (aD bQ (ax av (pv 0) ae (λ_ _=>rfl)) (ax av (pv 1) ae (λ_ _=>rfl))) (aD bQ (ax av (pv 1) ae (λ_ _=>rfl)) (ax av (pv 0) ae (λ_ _=>rfl))) (aK _)))),?_⟩
 exact ⟨_,rfl,p,_,0,_,rfl,rfl,hp,at0,_,rfl,r,_,1,_,rfl,rfl,hr',at1,_,_,rfl,rfl,⟨sa,sd⟩,_,rfl,r,_,0,_,rfl,rfl,hr',at0,_,rfl,p,_,1,_,rfl,rfl,hp,at1,_,_,rfl,rfl,⟨sc,sb⟩,_,_,rfl,rfl,q⟩
end
@[irreducible] def kX (K:Ez):Sp:=λvs H Q _=>∃(p r:Addr) (a b c d:Int),vs=[.ref p,.ref r]/\Two K H p a b/\Two K H r c d/\(0<b/\0<d)/\(Wd a/\Wd b/\Wd c/\Wd d/\Wd (b*d))/\∀(z:Addr) (H':Hp),az H H'->Two K H' z (kU (a,b) (c,d)).1 (kU (a,b) (c,d)).2->Q (.ref z) H'
theorem cH {K:Ez}{vs:List V}{H:Hp}{Q:VK}{E:XK}:kX K vs H Q E↔∃(p r:Addr) (a b c d:Int),vs=[.ref p,.ref r]/\Two K H p a b/\Two K H r c d/\(0<b/\0<d)/\(Wd a/\Wd b/\Wd c/\Wd d/\Wd (b*d))/\∀(z:Addr) (H':Hp),az H H'->Two K H' z (kU (a,b) (c,d)).1 (kU (a,b) (c,d)).2->Q (.ref z) H':=by
 delta kX
 exact Ge
section
theorem sS:aG ["one", "other"] ["one", "other"] (au i6):=⟨rfl,rfl,rfl,by decide +kernel,rfl,by decide +kernel,by decide +kernel⟩
theorem sT (F:Fun K "ratio_plus" "ratio_plus" i6 f fd)(B:Blt mg)(cRatioOf:Cal P w K mg base 2 "ratio_of" ["top", "bottom"] (l6 K)):aV P w K mg base CX0 3 f fd ["one", "other"] (kX K):=by
 refine F.ok sS (λvs H Q E h =>?_) (λcdv A outer s H vs Q E hr h =>?_)
 ·obtain ⟨_,_,_,_,_,_,rfl,_⟩:=cH.mp h
  rfl
 obtain ⟨p,r,a,b,c,d,rfl,hp,hr',⟨h0,h1⟩,⟨sa,sb,sc,sd,sbd⟩,q⟩:=cH.mp h
 refine ⟨_,(aq (aF (ay cRatioOf hr (by decide) rfl (aa (aD bh (aD bQ (ax av (pv 0) ae (λ_ _=>rfl)) (ax av (pv 1) ae (λ_ _=>rfl))) (aD bQ (ax av (pv 1) ae (λ_ _=>rfl)) (ax av (pv 0) ae (λ_ _=>rfl)))) (aa (aD bQ (ax av (pv 0) ae (λ_ _=>rfl)) (ax av (pv 1) ae (λ_ _=>rfl))) ag rfl) rfl)))),?_⟩
 refine ⟨_,rfl,p,_,0,_,rfl,rfl,hp,at0,_,rfl,r,_,1,_,rfl,rfl,hr',at1,_,_,rfl,rfl,⟨sa,sd⟩,_,rfl,r,_,0,_,rfl,rfl,hr',at0,_,rfl,p,_,1,_,rfl,rfl,hp,at1,_,_,rfl,rfl,⟨sc,sb⟩,_,_,rfl,rfl,
  _,rfl,p,_,1,_,rfl,rfl,hp,at1,_,rfl,r,_,1,_,rfl,rfl,hr',at1,_,_,rfl,rfl,⟨sb,sd⟩,bV.mpr ⟨_,_,rfl,Jr h0 h1,sbd,λz H' sm t=>q z H' sm t⟩⟩
end
abbrev sU:Sp:=λvs H Q _=>∃i:Int,vs=[.int i]/\Q (.bl true) H
@[irreducible] def mm:Sp:=sU
theorem eF {vs:List V}{H:Hp}{Q:VK}{E:XK}:mm vs H Q E↔sU vs H Q E:=by
 delta mm
 exact Ge
section
theorem zX:aG ["found"] ["found"] (au qr):=⟨rfl,rfl,rfl,by decide +kernel,rfl,by decide +kernel,by decide +kernel⟩
theorem zY (F:Fun K "_law_whole" "_law_whole" qr f fd)(B:Blt mg):aV P w K mg base CX0 1 f fd ["found"] mm:=by
 refine F.ok zX (λvs H Q E h =>?_) (λcdv A outer s H vs Q E hr h =>?_)
 ·obtain ⟨_,rfl,_⟩:=eF.mp h
  rfl
 obtain ⟨a,rfl,q⟩:=eF.mp h
 refine ⟨_,(aq (aF (kg (aI lI rfl B.b_isinstance ff (aa (pv 0) (aa (pP (v :=.ty "int") rfl B.b_int C1 rfl) ag rfl) rfl)) (j9 (Cs (aI lI rfl B.b_isinstance ff (aa (pv 0) (aa (pP (v :=.ty "bool") rfl B.b_bool Bt rfl) ag rfl) rfl))))))),?_⟩
 refine ⟨_,rfl,.int a, "int",_,true,rfl,.int a,rfl,_,rfl,aP ?_⟩
 exact ⟨_,rfl,.int a, "bool",_,false,rfl,.int a,rfl,_,rfl,q⟩
end
abbrev vL:Sp:=λvs H Q _=>∃a b:Int,vs=[.int a,.int b]/\0<=a/\0<=b/\∀H',az H H'->Q (.int (gc a b)) H'
@[irreducible] def nK:Sp:=vL
theorem fZ {vs:List V}{H:Hp}{Q:VK}{E:XK}:nK vs H Q E↔vL vs H Q E:=by
 delta nK
 exact Ge
section
theorem vM:aG ["one", "other"] ["one", "other"] (au uC):=⟨rfl,rfl,rfl,by decide +kernel,rfl,by decide +kernel,by decide +kernel⟩
theorem BB (F:Fun K "_law_part" "_law_part" uC f fd)(B:Blt mg):aV P w K mg base CX0 1 f fd ["one", "other"] nK:=by
 refine F.ok vM (λvs H Q E h =>?_) (λcdv A outer s H vs Q E hr h =>?_)
 ·obtain ⟨_,_,rfl,_⟩:=fZ.mp h
  rfl
 obtain ⟨a,b,rfl,a0,b0,q⟩:=fZ.mp h
 refine ⟨_,(ah (gr Fp (aA mF (pv 1) ae (aK _))
   (aq (yy (i:=0) (j:=1) rfl vM.nd rfl rfl (by decide) rfl rfl (aa (pv 1) (aa (aD cx (pv 0) (pv 1)) ag rfl) rfl) rfl)))
  (aq (aF (pv 0)))),?_⟩
 refine gu (λσ H'=>∃x y:Int,σ=[some (.int x),some (.int y)]/\az H H'/\0<=x/\0<=y/\gc x y=gc a b) (λσ _=>match σ with | [_,some (.int y)]=>y.toNat | _=>0) ⟨a,b,rfl,az.refl _,a0,b0,rfl⟩ ?_ ?_
 ·rintro σ H' ⟨x,y,rfl,sm,x0,y0,e⟩
  refine ⟨_,rfl,_,_,rfl,rfl,_,rfl,dE (λc =>?_) (λc =>?_)⟩
  ·have yp:0<y:=of_decide_eq_true c
   refine ⟨_,rfl,_,rfl,_,rfl,_,_,rfl,rfl,yp,_,_,rfl,⟨y,x%y,rfl,sm,y0,GF _ (by lia),?_⟩,?_⟩
   ·rw[vJ];exact e
   ·show (x%y).toNat<y.toNat
    have:=Gx x yp
    have:=GF x (b:=y) (by lia)
    lia
  ·have c':y=0:=by
    have:¬ 0<y:=by simpa using c
    lia
   subst c'
   rw[vK x0] at e
   rw[<- e] at q
   exact ⟨_,rfl,q _ sm⟩
 ·rintro σ H' Q1 Q2 hQ ⟨v,e1,i,j,e2,e3,b,e4,r⟩
  exact ⟨v,e1,i,j,e2,e3,b,e4,hQ _ _ r⟩
end
@[irreducible] def vN (K:Ez):Sp:=λvs H Q _=>∃(p:Addr) (a b:Int),vs=[.ref p]/\Two K H p a b/\∀H',az H H'->Q (.bl (jh a b)) H'
theorem kY {K:Ez}{vs:List V}{H:Hp}{Q:VK}{E:XK}:vN K vs H Q E↔∃(p:Addr) (a b:Int),vs=[.ref p]/\Two K H p a b/\∀H',az H H'->Q (.bl (jh a b)) H':=by
 delta vN
 exact Ge
section
theorem uL:aG ["thing"] ["thing"] (au kJ):=⟨rfl,rfl,rfl,by decide +kernel,rfl,by decide +kernel,by decide +kernel⟩
theorem uM (F:Fun K "_law_is_ratio" "_law_is_ratio" kJ f fd)(B:Blt mg)(cLWhole:Cal P w K mg base 1 "_law_whole" ["found"] mm)(cLPart:Cal P w K mg base 1 "_law_part" ["one", "other"] nK):aV P w K mg base CX0 2 f fd ["thing"] (vN K):=by
 refine F.ok uL (λvs H Q E h =>?_) (λcdv A outer s H vs Q E hr h =>?_)
 ·obtain ⟨_,_,_,rfl,_⟩:=kY.mp h
  rfl
 obtain ⟨p,a,b,rfl,hp,q⟩:=kY.mp h
 refine ⟨_,(ah (aU (PW.pt (gm (gn (eQ (aI sC rfl B.b_isinstance ff (aa (pv 0) (aa (pP (v :=.ty "tuple") rfl B.b_tuple cR rfl) ag rfl) rfl)))) (gm (aA lD (aI aO rfl B.b_len bW (aa (pv 0) ag rfl)) ae (aK _)) (gm (gn (eQ (ay cLWhole hr (by decide) rfl (aa (ax av (pv 0) ae (λ_ _=>rfl)) ag rfl)))) (fM (gn (eQ (ay cLWhole hr (by decide) rfl (aa (ax av (pv 0) ae (λ_ _=>rfl)) ag rfl))))))))) (aq (aF jB)) aM)
  (aq (aF (kg (de mF (ax av (pv 0) ae (λ_ _=>rfl)) ae (aK _)) (j9 (de bN (ay cLPart hr (by decide) rfl (aa (aI mH rfl B.b_abs uE (aa (ax av (pv 0) ae (λ_ _=>rfl)) ag rfl)) (aa (ax av (pv 0) ae (λ_ _=>rfl)) ag rfl) rfl)) ae (aK _))))))),?_⟩
 refine ⟨_,rfl,p,_,rfl,hp,rfl,_,rfl,aQ ?_⟩
 refine ⟨_,rfl,p,_,rfl,.inr hp,rfl,_,rfl,aQ ?_⟩
 refine ⟨_,rfl,p,_,0,_,rfl,rfl,hp,at0,eF.mpr ⟨a,rfl,_,rfl,aQ ?_⟩⟩
 refine ⟨_,rfl,p,_,1,_,rfl,rfl,hp,at1,eF.mpr ⟨b,rfl,_,rfl,aQ ?_⟩⟩
 refine ⟨_,rfl,p,_,1,_,rfl,rfl,hp,at1,_,_,rfl,rfl,_,rfl,?_⟩
 unfold jh at q
 by_cases hb:1<=b
 ·rw[decide_eq_true (show (0:Int)<b by lia)]
  rw[decide_eq_true hb,KH] at q
  refine aP ⟨_,rfl,p,_,0,_,rfl,rfl,hp,at0,a,rfl,_,rfl,p,_,1,_,rfl,rfl,hp,at1,fZ.mpr ⟨ab a,b,rfl,Ce a,by lia,λH1 s1=>⟨rfl,?_⟩⟩⟩
  rw[Cf,Dc]
  exact q _ s1
 ·rw[decide_eq_false (show ¬ (0:Int)<b by lia)]
  rw[decide_eq_false hb,GW] at q
  exact aQ (q _ (az.refl _))
end
section
theorem pC:aG ["top", "bottom", "part"] ["top", "bottom"] (au nA):=⟨rfl,rfl,rfl,by decide +kernel,rfl,by decide +kernel,by decide +kernel⟩
theorem x8 (F:Fun K "_law_lowest" "_law_lowest" nA f fd)(B:Blt mg)(cLPart:Cal P w K mg base 1 "_law_part" ["one", "other"] nK):aV P w K mg base CX0 2 f fd ["top", "bottom"] (l6 K):=by
 refine F.ok pC (λvs H Q E h =>?_) (λcdv A outer s H vs Q E hr h =>?_)
 ·obtain ⟨_,_,rfl,_⟩:=bV.mp h
  rfl
 obtain ⟨a,b,rfl,h0,hw,q⟩:=bV.mp h
 refine ⟨_,(ah (aB (i:=2) pC.nd rfl (Or.inl rfl) (ay cLPart hr (by decide) rfl (aa (aI mH rfl B.b_abs uE (aa (pv 0) ag rfl)) (aa (pv 1) ag rfl) rfl)))
  (aq (aF (bw (aa (aD gI (pv 0) (pv 2)) (aa (aD gI (pv 1) (pv 2)) ag rfl) rfl))))),?_⟩
 refine ⟨_,rfl,a,rfl,_,rfl,fZ.mpr ⟨ab a,b,rfl,Ce a,by lia,λH1 s1 =>?_⟩⟩
 rw[Cf]
 have gp:=gX (a:=a) h0
 have gl:=zS (a:=a) h0
 have gw:Wd (gc a b):=Fb (by lia) hw
 refine ⟨_,rfl,_,rfl,_,_,rfl,rfl,⟨gp,gw⟩,_,rfl,_,rfl,_,_,rfl,rfl,⟨gp,gw⟩,(by show 2<=ES;decide),λp hp =>?_⟩
 exact q p _ (s1.trans (ak hp _)) (SqT.of ai)
end
section
theorem BC:aG ["one", "other"] ["one", "other"] (au uD):=⟨rfl,rfl,rfl,by decide +kernel,rfl,by decide +kernel,by decide +kernel⟩
theorem BD (F:Fun K "_law_plus" "_law_plus" uD f fd)(B:Blt mg)(cLLowest:Cal P w K mg base 2 "_law_lowest" ["top", "bottom"] (l6 K)):aV P w K mg base CX0 3 f fd ["one", "other"] (kX K):=by
 refine F.ok BC (λvs H Q E h =>?_) (λcdv A outer s H vs Q E hr h =>?_)
 ·obtain ⟨_,_,_,_,_,_,rfl,_⟩:=cH.mp h
  rfl
 obtain ⟨p,r,a,b,c,d,rfl,hp,hr',⟨h0,h1⟩,⟨sa,sb,sc,sd,sbd⟩,q⟩:=cH.mp h
 refine ⟨_,(aq (aF (ay cLLowest hr (by decide) rfl (aa (aD bh (aD bQ (ax av (pv 0) ae (λ_ _=>rfl)) (ax av (pv 1) ae (λ_ _=>rfl))) (aD bQ (ax av (pv 1) ae (λ_ _=>rfl)) (ax av (pv 0) ae (λ_ _=>rfl)))) (aa (aD bQ (ax av (pv 0) ae (λ_ _=>rfl)) (ax av (pv 1) ae (λ_ _=>rfl))) ag rfl) rfl)))),?_⟩
 refine ⟨_,rfl,p,_,0,_,rfl,rfl,hp,at0,_,rfl,r,_,1,_,rfl,rfl,hr',at1,_,_,rfl,rfl,⟨sa,sd⟩,_,rfl,r,_,0,_,rfl,rfl,hr',at0,_,rfl,p,_,1,_,rfl,rfl,hp,at1,_,_,rfl,rfl,⟨sc,sb⟩,_,_,rfl,rfl,
  _,rfl,p,_,1,_,rfl,rfl,hp,at1,_,rfl,r,_,1,_,rfl,rfl,hr',at1,_,_,rfl,rfl,⟨sb,sd⟩,bV.mpr ⟨_,_,rfl,Jr h0 h1,sbd,λz H' sm t=>q z H' sm t⟩⟩
end
theorem dY {α:Type}{f:α -> Addr}{us:List α}{i:Nat}{x:V}(e:(us.map λu=>V.ref (f u))[i]? = some x):∃u,us[i]? = some u/\x = .ref (f u):=by
 rw[ET] at e
 cases h:us[i]? with
 | none=>rw[h] at e;cases e
 | some u=>rw[h] at e;exact ⟨u,rfl,(EX e).symm⟩
theorem w64:Wd ((10:Int) ^ (64:Int).toNat):=by unfold Wd;decide +kernel
theorem w128:Wd ((10:Int) ^ (64:Int).toNat*(10:Int) ^ (64:Int).toNat):=by unfold Wd;decide +kernel
theorem w192:Wd ((10:Int) ^ (64:Int).toNat*(10:Int) ^ (64:Int).toNat*(10:Int) ^ (64:Int).toNat):=by unfold Wd;decide +kernel
theorem p256:(0:Int)<(10:Int) ^ (64:Int).toNat*(10:Int) ^ (64:Int).toNat*(10:Int) ^ (64:Int).toNat*(10:Int) ^ (64:Int).toNat:=by decide +kernel
theorem fD {i:Int}(h:i.natAbs<2 ^ 200):Sm i:=EL h (FG (by decide) (by decide))
theorem vO {ws:List Int}{x:Int}(h:ws.Pairwise (· < ·))(g:∀v∈ws,v<x):(ws++[x]).Pairwise (· < ·):=Lv.mpr ⟨h,by simp,λa ha b hb=>by rw[ED.mp hb];exact g a ha⟩
theorem iH {c A:Prop}[Decidable c]{P:St->Hp->Prop}{σ:St}{H:Hp}(G:St->Hp->Prop)(hP:∀σ' H',G σ' H'->P σ' H')(h1:(∀σ' H',G σ' H'->P σ' H')->c->A)(h2:¬ c->G σ H):if c then A else P σ H:=by
 by_cases h:c
 ·rw[if_pos h];exact h1 hP h
 ·rw[if_neg h];exact hP σ H (h2 h)
theorem pD {b1:Bool}{U:Hp->(Bool->Hp->Prop)->Prop}{A:Hp->Prop}{P:St->Hp->Prop}{σ:St}{H5:Hp}(G:St->Hp->Prop)(hP:∀σ' H',G σ' H'->P σ' H')(h:(∀σ' H',G σ' H'->P σ' H')->b1=true->U H5 λb H1=>if b=true then A H1 else P σ H1)(h2:G σ H5):if b1=true then U H5 (λb H1=>if b=true then A H1 else P σ H1) else (λb H1=>if b=true then A H1 else P σ H1) false H5:=by
 cases b1 with
 | true=>rw[if_pos rfl];exact h hP rfl
 | false=>rw[if_neg EO];exact aQ (hP _ _ h2)
theorem kZ {p l:Addr}{H:Hp}(hp:Pt 2 H p)(hl:H l=none):l≠p:=λz=>by
 obtain ⟨xs,_,e⟩:=hp
 rw[z,e] at hl;cases hl
theorem zZ {p l:Addr}{H H':Hp}(b:Bu 2 p H H')(hl:H' l=none)(n:l≠p):H l=none:=by
 cases h:H l with
 | none=>rfl
 | some o=>rw[b.st _ _ n h] at hl;cases hl
theorem Wb.bu {H H':Hp}{p r:Addr}{m:Int}{ts:LAz}(W:Wb H r m ts)(b:Bu 2 p H H')(hp:Pt 2 H p):Wb H' r m ts:=W.tp λc u h=>b.tup hp h
theorem Two.bu {K:Ez}{H H':Hp}{p q:Addr}{x y:Int}(h:Two K H q x y)(b:Bu 2 p H H')(hp:Pt 2 H p):Two K H' q x y:=by
 rcases h with (h | ⟨o,h⟩) | h
 ·exact .inl (.inl (b.tup hp h))
 ·refine .inl (.inr ⟨o,b.st _ _ (λz =>?_) h⟩)
  obtain ⟨xs,_,e⟩:=hp
  rw[z,e] at h;cases h
 ·exact .inr h
@[irreducible] def qH (K:Ez):Sp:=λvs H Q _=>∃(a:Addr) (ns:List Int) (k:Int),vs=[.ref a,.int k]/\SqL K H a (ns.map V.int)/\0<=k/\k<100/\∀(x y:Int) (p:Addr),H p=none->Q (.ref p) (upd H p (.lst [.int x,.int y]))
theorem ji {K:Ez}{vs:List V}{H:Hp}{Q:VK}{E:XK}:qH K vs H Q E↔∃(a:Addr) (ns:List Int) (k:Int),vs=[.ref a,.int k]/\SqL K H a (ns.map V.int)/\0<=k/\k<100/\∀(x y:Int) (p:Addr),H p=none->Q (.ref p) (upd H p (.lst [.int x,.int y])):=by
 delta qH
 exact Ge
section
theorem qI:aG ["script", "k", "cell"] ["script", "k"] (au uA):=⟨rfl,rfl,rfl,by decide +kernel,rfl,by decide +kernel,by decide +kernel⟩
theorem BE (F:Fun K "_law_deal" "_law_deal" uA f fd)(B:Blt mg):aV P w K mg base CX0 1 f fd ["script", "k"] (qH K):=by
 refine F.ok qI (λvs H Q E h =>?_) (λcdv A outer s H vs Q E hr h =>?_)
 ·obtain ⟨_,_,_,rfl,_⟩:=ji.mp h
  rfl
 obtain ⟨a,ns,k,rfl,hS,h0,h1,q⟩:=ji.mp h
 refine ⟨_,(ah (aB (i:=2) qI.nd rfl (Or.inl rfl) ae)
  (ah (aU (aA oD (pv 1) (aI aO rfl B.b_len bW (aa (pv 0) ag rfl)) (aK _)) (aq (aB (i:=2) qI.nd rfl (Or.inl rfl) (aD cx (ax bz (pv 0) (pv 1) (λ_ _=>rfl)) (aD bQ (aD bQ (aD bQ (aD fN ae ae) (aD fN ae ae)) (aD fN ae ae)) (aD fN ae ae))))) aM)
  (aq (aF (cy (aa (aI (ie rfl) rfl B.b_max kM (aa ae (aa (aD gx (pv 2) (aD fN ae ae)) ag rfl) rfl)) (aa (aD cx (aD ko (aD bh (aD bh (aD cx (pv 2) ae) (aD ko ae (pv 1))) ae) ae) ae) ag rfl) rfl)))))),?_⟩
 refine ⟨_,rfl,_,rfl,a,_,rfl,.inl hS,_,_,rfl,rfl,_,rfl,dE (λc =>?_) (λc =>?_)⟩
 ·have c':k<((ns.map V.int).length:Int):=of_decide_eq_true c
  rw[Ex] at c'
  obtain ⟨n,rfl⟩:∃n:Nat,k=n:=⟨k.toNat,by lia⟩
  obtain ⟨v,hat⟩:∃v,atI (ns.map V.int) (n:Int)=some (.int v):=⟨ns[n]'(by lia),by
   refine cC ?_
   rw[ET,EA (show n<ns.length by lia)]
   rfl⟩
  refine ⟨_,rfl,_,rfl,a,_,n,_,rfl,rfl,hS,hat,_,_,rfl,rfl,⟨by decide,by decide,by decide⟩,_,_,rfl,rfl,⟨by decide,by decide,by decide⟩,_,_,rfl,rfl,⟨w64,w64⟩,_,_,rfl,rfl,⟨by decide,by decide,by decide⟩,_,_,rfl,rfl,⟨w128,w64⟩,
   _,_,rfl,rfl,⟨by decide,by decide,by decide⟩,_,_,rfl,rfl,⟨w192,w64⟩,_,_,rfl,rfl,p256,?_⟩
  refine ⟨_,rfl,_,_,rfl,rfl,⟨by decide,by decide,by decide⟩,_,_,rfl,rfl,_,_,rfl,_,rfl,_,_,rfl,rfl,(by show (0:Int)<_;decide),_,rfl,_,_,rfl,rfl,.inl ⟨by decide,by decide⟩,_,_,rfl,rfl,_,_,rfl,rfl,_,_,rfl,rfl,.inr ⟨by decide,by decide⟩,_,_,rfl,rfl,(by show (0:Int)<_;decide),
   (by show 2<=ES;decide),λp hp=>q _ _ p hp⟩
 ·refine ⟨_,rfl,_,_,rfl,rfl,⟨by decide,by decide,by decide⟩,_,_,rfl,rfl,_,_,rfl,_,rfl,_,_,rfl,rfl,(by show (0:Int)<_;decide),_,rfl,_,_,rfl,rfl,.inl ⟨by decide,by decide⟩,_,_,rfl,rfl,_,_,rfl,rfl,_,_,rfl,rfl,.inr ⟨by decide,by decide⟩,_,_,rfl,rfl,(by show (0:Int)<_;decide),
   (by show 2<=ES;decide),λp hp=>q _ _ p hp⟩
end
abbrev vP:Sp:=λvs H Q _=>∃(p:Addr) (m:Int),vs=[.ref p,.int m]/\Pt 2 H p/\0<m/\m<1073741824/\∀(r:Int) (H':Hp),0<=r->r<m->Bu 2 p H H'->Q (.int r) H'
@[irreducible] def fg:Sp:=vP
theorem aN {vs:List V}{H:Hp}{Q:VK}{E:XK}:fg vs H Q E↔vP vs H Q E:=by
 delta fg
 exact Ge
section
theorem vQ:aG ["pot", "many", "found"] ["pot", "many"] (au uB):=⟨rfl,rfl,rfl,by decide +kernel,rfl,by decide +kernel,by decide +kernel⟩
theorem BF (F:Fun K "_law_take" "_law_take" uB f fd)(B:Blt mg):aV P w K mg base CX0 1 f fd ["pot", "many"] fg:=by
 refine F.ok vQ (λvs H Q E h =>?_) (λcdv A outer s H vs Q E hr h =>?_)
 ·obtain ⟨_,_,rfl,_⟩:=aN.mp h
  rfl
 obtain ⟨p,m,rfl,hp0,h0,h1,q⟩:=aN.mp h
 refine ⟨_,(ah (aU (aA mF (ax bz (pv 0) ae (λ_ _=>rfl)) ae (aK _)) (ah (aB (i:=2) vQ.nd rfl (Or.inl rfl) (aD cx (ax bz (pv 0) ae (λ_ _=>rfl)) (pv 1)))
   (ah (ki (aD pR (ax bz (pv 0) ae (λ_ _=>rfl)) (pv 1)) (pQ (pv 0) ae set_list) rfl rfl rfl)
   (aq (aF (pv 2))))) aM)
  (ah (ki (aD cx (aD bh (aD ko (ax bz (pv 0) ae (λ_ _=>rfl)) ae) ae) ae) (pQ (pv 0) ae set_list) rfl rfl rfl)
  (aq (aF (aD cx (aD pR (aD cx (aD ko (ax bz (pv 0) ae (λ_ _=>rfl)) (ax bz (pv 0) ae (λ_ _=>rfl))) ae) ae) (pv 1)))))),?_⟩
 have bt:=Bu.refl hp0
 obtain ⟨xs,lx,hp⟩:=hp0
 match xs,lx with
 | [x,y],_ =>
  refine ⟨_,rfl,p,_,0,_,rfl,rfl,SqL.of hp,rfl,_,_,rfl,rfl,_,rfl,dE (λc =>?_) (λc =>?_)⟩
  ·refine ⟨_,rfl,p,_,0,_,rfl,rfl,SqL.of hp,rfl,_,rfl,_,_,rfl,rfl,h0,?_⟩
   refine ⟨_,rfl,p,_,0,_,rfl,rfl,SqL.of hp,rfl,_,rfl,_,_,rfl,rfl,⟨h0,h1⟩,_,rfl,p,_,0,0,rfl,rfl,hp,rfl,?_⟩
   refine ⟨_,rfl,?_⟩
   exact q _ _ (GF _ (by lia)) (Gx _ h0) (bt.put (ys:=[x/m,y]) rfl)
  ·refine ⟨_,rfl,p,_,1,_,rfl,rfl,SqL.of hp,rfl,_,_,rfl,rfl,.inr ⟨by decide,by decide⟩,_,_,rfl,rfl,_,_,rfl,rfl,(by show (0:Int)<_;decide),_,rfl,p,_,1,1,rfl,rfl,hp,rfl,?_⟩
   dsimp only
   have b1:=GF (y*69621+12345) (b:=2147483647) (by decide)
   have b2:=Gx (y*69621+12345) (b:=2147483647) (by decide)
   generalize (y*69621+12345)%2147483647=z at b1 b2 ⊢
   have e:(([x,y].map V.int).set 1 (V.int z))=[x,z].map V.int:=rfl
   rw[e]
   refine ⟨_,rfl,p,_,1,_,rfl,rfl,SqL.of ai,rfl,_,rfl,p,_,1,_,rfl,rfl,SqL.of ai,rfl,_,_,rfl,rfl,.inl ⟨by lia,by lia⟩,_,_,rfl,rfl,(by show (0:Int)<_;decide),_,_,rfl,rfl,⟨by decide,by decide⟩,_,rfl,_,_,rfl,rfl,h0,?_⟩
   exact q _ _ (GF _ (by lia)) (Gx _ h0) (bt.put (ys:=[x,z]) rfl)
end
abbrev z9:Sp:=λvs H Q _=>∃(p:Addr),vs=[.ref p]/\Pt 2 H p/\∀(r:Int) (H':Hp),0<=r->r<10 ^ 60->Bu 2 p H H'->Q (.int r) H'
@[irreducible] def vR:Sp:=z9
theorem iI {vs:List V}{H:Hp}{Q:VK}{E:XK}:vR vs H Q E↔z9 vs H Q E:=by
 delta vR
 exact Ge
section
theorem qJ:aG ["pot", "found", "turn"] ["pot"] (au zG):=⟨rfl,rfl,rfl,by decide +kernel,rfl,by decide +kernel,by decide +kernel⟩
theorem Dd (F:Fun K "_law_big" "_law_big" zG f fd)(B:Blt mg)(cLTake:Cal P w K mg base 1 "_law_take" ["pot", "many"] fg):aV P w K mg base CX0 2 f fd ["pot"] vR:=by
 refine F.ok qJ (λvs H Q E h =>?_) (λcdv A outer s H vs Q E hr h =>?_)
 ·obtain ⟨_,rfl,_⟩:=iI.mp h
  rfl
 obtain ⟨p,rfl,hp,q⟩:=iI.mp h
 refine ⟨_,(ah (aB (i:=1) qJ.nd rfl (Or.inl rfl) ae)
  (ah (bB Fp rfl (aY rfl B.b_range (aa ae ag rfl)) (aE (i:=2) qJ.nd rfl (Or.inl rfl))
   (aq (aB (i:=1) qJ.nd rfl (Or.inl rfl) (aD bh (aD ko (pv 1) (aD fN ae ae)) (ay cLTake hr (by decide) rfl (aa (pv 0) (aa (aD fN ae ae) ag rfl) rfl))))) (λ_=>rfl))
  (aq (aF (aD cx (pv 1) (aD gx (aD fN ae ae) ae)))))),?_⟩
 refine ⟨_,rfl,by decide,by decide,cV (λk σ H'=>(∃(g:Int) (lv:Option V),σ=[some (.ref p),some (.int g),lv])/\Bu 2 p H H') ⟨⟨0,none,rfl⟩,Bu.refl hp⟩ ?_ ?_⟩
 ·rintro k σ H' hk ⟨⟨g,lv,rfl⟩,bt⟩
  refine ⟨_,rfl,_,_,rfl,rfl,⟨by decide,by decide,by decide⟩,_,_,rfl,rfl,.inr ⟨by decide,by decide⟩,_,rfl,_,_,rfl,rfl,⟨by decide,by decide,by decide⟩,aN.mpr ⟨p,_,rfl,bt.pot,by decide,by decide,λr H2 r0 r1 b2 =>?_⟩⟩
  exact ⟨_,_,rfl,rfl,⟨_,some (.int (0+k)),rfl⟩,bt.trans b2⟩
 ·rintro σ H' ⟨⟨g,lv,rfl⟩,bt⟩
  refine ⟨_,rfl,_,_,rfl,rfl,⟨by decide,by decide,by decide⟩,_,_,rfl,rfl,_,_,rfl,rfl,(by show (0:Int)<(10:Int) ^ (60:Int).toNat-1;decide),?_⟩
  have e:(10:Int) ^ (60:Int).toNat-1=10 ^ 60-1:=rfl
  dsimp only
  rw[e]
  have b1:=GF g (b:=10 ^ 60-1) (by decide)
  have b2:=Gx g (b:=10 ^ 60-1) (by decide)
  exact q _ _ b1 (by lia) bt
end
theorem at4 {d:Int}(d0:0<=d)(d1:d<4):∃v:Int,atI [V.int 4,V.int 2,V.int 3,V.int 1] d=some (.int v):=by
 obtain rfl | rfl | rfl | rfl:d=0\/d=1\/d=2\/d=3:=by lia
 all_goals exact ⟨_,rfl⟩
abbrev vS:Sp:=λvs H Q _=>∃(p:Addr) (m:Nat),vs=[.ref p,.int m]/\Pt 2 H p/\m<=40/\∀(k:Addr) (Z:List Int) (H':Hp),Bu 2 p H H'->H' k=some (.tup (Z.map V.int))->(∀v∈Z,0<=v/\v<m)->Z.length<=m->Z.Pairwise (· < ·)->Q (.ref k) H'
@[irreducible] def qK:Sp:=vS
theorem jj {vs:List V}{H:Hp}{Q:VK}{E:XK}:qK vs H Q E↔vS vs H Q E:=by
 delta qK
 exact Ge
section
theorem iZ:aG ["pot", "many", "share"] ["pot", "many"] (au fS):=⟨rfl,rfl,rfl,by decide +kernel,rfl,by decide +kernel,by decide +kernel⟩
theorem dz:(["place", "pot", "share"]:List Str).Nodup:=by decide +kernel
theorem ox (F:Fun K "_law_some_places" "_law_some_places" fS f fd)(B:Blt mg)(cLTake:Cal P w K mg base 1 "_law_take" ["pot", "many"] fg):aV P w K mg base CX0 2 f fd ["pot", "many"] qK:=by
 refine F.ok iZ (λvs H Q E h =>?_) (λcdv A outer s H vs Q E hr h =>?_)
 ·obtain ⟨_,_,rfl,_⟩:=jj.mp h
  rfl
 obtain ⟨p,m,rfl,hp,m4,q⟩:=jj.mp h
 refine ⟨_,(ah (aB (i:=2) iZ.nd rfl (Or.inr rfl) (ax av (bw (aa ae (aa ae (aa ae (aa ae ag rfl) rfl) rfl) rfl)) (ay cLTake hr (by decide) rfl (aa (pv 0) (aa ae ag rfl) rfl)) (λ_ _=>rfl)))
  (aq (aF (bq aZ rfl B.b_tuple cR (aa (bc ["place", "pot", "share"] [none,some 0,some 2] rfl (aY rfl B.b_range (aa (pv 1) ag rfl)) rfl (λ_ _ _ _ _=>(aE (i:=0) dz rfl (Or.inl rfl))) (λ_ _ _ _ _=>(dO (aA oD (ay cLTake hr (by decide) rfl (aa (pv 1) (aa ae ag rfl) rfl)) (pv 2) (aK _)))) (λ_ _ _ _ _=>(pv 0))) ag rfl))))),?_⟩
 refine ⟨(by show 4<=ES;decide),λt ht =>?_⟩
 have nt:=kZ hp ht
 have b0:=(Bu.refl hp).same (ak ht (.tup [.int 4,.int 2,.int 3,.int 1]))
 have et:upd H t (.tup [.int 4,.int 2,.int 3,.int 1]) t=some (.tup [.int 4,.int 2,.int 3,.int 1]):=ai
 generalize upd H t (.tup [.int 4,.int 2,.int 3,.int 1])=H0 at b0 et
 refine ⟨_,rfl,aN.mpr ⟨p,4,rfl,b0.pot,by decide,by decide,λd H1 d0 d1 b1 =>?_⟩⟩
 obtain ⟨sh,hsh⟩:=at4 d0 d1
 refine ⟨t,_,d,_,rfl,rfl,SqT.of (b1.st _ _ nt et),hsh,?_⟩
 let W0:Nat->List V->Hp->Prop:=λi ys H'=>Bu 2 p H H'/\∃ws:List Int,ys=ws.map V.int/\(∀v∈ws,0<=v/\v<m)/\ws.length<=i/\(∀v∈ws,v<(i:Int))/\ws.Pairwise (· < ·)
 refine ⟨_,rfl,(m:Int),rfl,by lia,by lia,bE W0 ⟨b0.trans b1,[],rfl,(λv h=>nomatch h),EI _,(λv h=>nomatch h),.nil⟩ (aW (by lia)) ?_ ?_⟩
 ·rintro i ys H3 hi _ ⟨b3,ws,rfl,aw,lw,iw,pw⟩ R1 R0 r1 r0
  refine ⟨_,rfl,(aN (E:=E0)).mpr ⟨p,4,rfl,b3.pot,by decide,by decide,λx H4 x0 x1 b4=>⟨_,rfl,_,_,rfl,rfl,_,rfl,dE (λz =>?_) λz =>?_⟩⟩⟩
  ·refine ⟨_,rfl,r1 _ _ ⟨b3.trans b4,ws++[0+(i:Int)],by rw[ER];rfl,λv hv =>?_,by rw[EE];show _+1<=_;lia,λv hv =>?_,vO pw λv hv=>by have:=iw v hv;lia⟩⟩
   ·rcases EU.mp hv with z | z
    ·exact aw v z
    ·rw[ED.mp z];lia
   ·rcases EU.mp hv with z | z
    ·have:=iw v z;lia
    ·rw[ED.mp z];lia
  ·exact r0 _ ⟨b3.trans b4,ws,rfl,aw,by lia,λv hv=>(by have:=iw v hv;lia),pw⟩
 ·rintro ys H3 _ ⟨b3,ws,rfl,aw,lw,_,pw⟩ l hl
  have s4:=ak hl (.lst (ws.map V.int))
  refine ⟨l,_,rfl,.inl ⟨SqL.of ai,λk hk=>q k ws _ ((b3.same s4).same (ak hk _)) ai aw (by lia) pw⟩⟩
end
@[irreducible] def BG (K:Ez):Sp:=λvs H Q _=>∃(p:Addr),vs=[.ref p]/\Pt 2 H p/\∀(z:Addr) (a b:Int) (H':Hp),Bu 2 p H H'->Two K H' z (rt a b) (rb a b)->0<b->0<a->a.natAbs<2 ^ 200->b.natAbs<2 ^ 200->Q (.ref z) H'
theorem nL {K:Ez}{vs:List V}{H:Hp}{Q:VK}{E:XK}:BG K vs H Q E↔∃(p:Addr),vs=[.ref p]/\Pt 2 H p/\∀(z:Addr) (a b:Int) (H':Hp),Bu 2 p H H'->Two K H' z (rt a b) (rb a b)->0<b->0<a->a.natAbs<2 ^ 200->b.natAbs<2 ^ 200->Q (.ref z) H':=by
 delta BG
 exact Ge
section
theorem gY:aG ["pot", "top", "bottom"] ["pot"] (au qu):=⟨rfl,rfl,rfl,by decide +kernel,rfl,by decide +kernel,by decide +kernel⟩
theorem Aa (F:Fun K "_law_share" "_law_share" qu f fd)(B:Blt mg)(cLLowest:Cal P w K mg base 2 "_law_lowest" ["top", "bottom"] (l6 K))(cLTake:Cal P w K mg base 1 "_law_take" ["pot", "many"] fg)(cLBig:Cal P w K mg base 2 "_law_big" ["pot"] vR):aV P w K mg base CX0 3 f fd ["pot"] (BG K):=by
 refine F.ok gY (λvs H Q E h =>?_) (λcdv A outer s H vs Q E hr h =>?_)
 ·obtain ⟨_,rfl,_⟩:=nL.mp h
  rfl
 obtain ⟨p,rfl,hp,q⟩:=nL.mp h
 refine ⟨_,(ah (aB (i:=1) gY.nd rfl (Or.inl rfl) (aD bh ae (ay cLTake hr (by decide) rfl (aa (pv 0) (aa ae ag rfl) rfl))))
  (ah (aB (i:=2) gY.nd rfl (Or.inl rfl) (aD bh ae (ay cLTake hr (by decide) rfl (aa (pv 0) (aa ae ag rfl) rfl))))
  (ah (aU (aA bN (ay cLTake hr (by decide) rfl (aa (pv 0) (aa ae ag rfl) rfl)) ae (aK _)) (ah (aB (i:=1) gY.nd rfl (Or.inl rfl) (aD bh ae (ay cLBig hr (by decide) rfl (aa (pv 0) ag rfl))))
   (aq (aB (i:=2) gY.nd rfl (Or.inl rfl) (aD bh ae (ay cLBig hr (by decide) rfl (aa (pv 0) ag rfl)))))) aM)
  (aq (aF (ay cLLowest hr (by decide) rfl (aa (pv 1) (aa (pv 2) ag rfl) rfl))))))),?_⟩
 refine ⟨_,rfl,aN.mpr ⟨p,9,rfl,hp,by decide,by decide,λd1 H1 x0 x1 b1=>⟨_,_,rfl,rfl,?_⟩⟩⟩
 refine ⟨_,rfl,aN.mpr ⟨p,6,rfl,b1.pot,by decide,by decide,λd2 H2 y0 y1 b2=>⟨_,_,rfl,rfl,?_⟩⟩⟩
 refine ⟨_,rfl,aN.mpr ⟨p,5,rfl,b2.pot,by decide,by decide,λd3 H3 z0 z1 b3=>⟨rfl,_,rfl,?_⟩⟩⟩
 have b123:=(b1.trans b2).trans b3
 refine iH (λσ H'=>(∃a b:Int,σ=[some (.ref p),some (.int a),some (.int b)]/\0<b/\0<a/\a.natAbs<2 ^ 200/\b.natAbs<2 ^ 200)/\Bu 2 p H H') ?_ (λhP z =>?_) λz=>⟨⟨1+d1,1+d2,rfl,by lia,by lia,by lia,by lia⟩,b123⟩
 ·rintro σ H' ⟨⟨a,b,rfl,h0,a0,sa,sb⟩,b'⟩
  exact ⟨_,rfl,_,rfl,bV.mpr ⟨a,b,rfl,h0,(fD sb).wd,λz H4 s4 t4=>q z a b H4 (b'.same s4) t4 h0 a0 sa sb⟩⟩
 ·refine ⟨_,rfl,iI.mpr ⟨p,rfl,b3.pot,λu H4 u0 u1 b4=>⟨_,_,rfl,rfl,?_⟩⟩⟩
  refine ⟨_,rfl,iI.mpr ⟨p,rfl,b4.pot,λv H5 v0 v1 b5=>⟨_,_,rfl,rfl,?_⟩⟩⟩
  exact hP _ _ ⟨⟨1+u,1+v,rfl,by lia,by lia,by lia,by lia⟩,(b123.trans b4).trans b5⟩
end
theorem cutT {α:Type}(f:α -> V)(Z:List α)(lo hi:Option Int):∃Y:List α,cS (Z.map f) lo hi=Y.map f/\Y.length<=Z.length/\∀v∈Y,v∈Z:=by
 refine ⟨(Z.drop (HT.sIx (Z.map f).length 0 lo)).take (HT.sIx (Z.map f).length (Z.map f).length hi-HT.sIx (Z.map f).length 0 lo),?_,?_,λv hv=>Hx (Gp hv)⟩
 ·unfold cS
  rw[IH,Ik]
 ·rw[Fz,FD];lia
theorem Ab (xs:List V)(k:Nat):cS xs none (some (k:Int))=xs.take k:=by
 unfold cS
 rw[HT.yK,HT.AR,Jt,Lc]
 by_cases h:k<=xs.length
 ·rw[Nat.min_eq_left h]
 ·rw[KR (by lia),Fv (EI _),Fv (by lia)]
def TL (m n:Nat)(H:Hp)(l:Addr):Prop:=∃us:LAz,H l=some (.lst (us.map λu =>.ref u.1))/\Tus H us/\(∀u∈us,∃a b:Int,u.2=[a,b]/\0<=a/\a<m/\0<=b/\b<m)/\us.length<=n
theorem TL.bu {m n:Nat}{H H':Hp}{l p:Addr}(h:TL m n H l)(b:Bu 2 p H H')(hp:Pt 2 H p)(nl:l≠p):TL m n H' l:=by
 obtain ⟨us,e,tu,pu,lu⟩:=h
 exact ⟨us,b.st _ _ nl e,tu.bu b hp,pu,lu⟩
theorem TL.mono {m n n':Nat}{H:Hp}{l:Addr}(h:TL m n H l)(z:n<=n'):TL m n' H l:=by
 obtain ⟨us,e,tu,pu,lu⟩:=h
 exact ⟨us,e,tu,pu,Ff lu z⟩
theorem TL.snoc {m n:Nat}{H:Hp}{l:Addr}{us vs:LAz}(el:H l=some (.lst (us.map λu =>.ref u.1)))(tu:Tus H us)(pu:∀u∈us,∃a b:Int,u.2=[a,b]/\0<=a/\a<m/\0<=b/\b<m)(tv:Tus H vs)(pv:∀u∈vs,∃a b:Int,u.2=[a,b]/\0<=a/\a<m/\0<=b/\b<m)(ln:us.length+vs.length<=n):TL m n (upd H l (.lst (us.map (λu=>V.ref u.1)++vs.map λu=>V.ref u.1))) l:=by
 refine ⟨us++vs,by rw[ai,ER],λu hu =>?_,λu hu =>?_,by rw[EE];exact ln⟩
 ·rcases EU.mp hu with z | z
  ·rw[aH (lC (tu u z) el nofun)];exact tu u z
  ·rw[aH (lC (tv u z) el nofun)];exact tv u z
 ·rcases EU.mp hu with z | z
  ·exact pu u z
  ·exact pv u z
theorem BH {H:Hp}{t:Addr}{a b:Int}(e:H t=some (.tup [.int a,.int b])):Tus H [(t,[a,b])]:=λu hu=>by
 rw[ED.mp hu];exact e
theorem in1 {m:Nat}{t:Addr}{a b:Int}(a0:0<=a)(a1:a<m)(b0:0<=b)(b1:b<m):∀u∈[(t,[a,b])],∃a b:Int,u.2=[a,b]/\0<=a/\a<m/\0<=b/\b<m:=λu hu=>by
 rw[ED.mp hu];exact ⟨a,b,rfl,a0,a1,b0,b1⟩
abbrev Ac:Sp:=λvs H Q _=>∃(p:Addr) (mo rm:Nat),vs=[.ref p,.int mo,.int rm]/\Pt 2 H p/\mo<=40/\rm<=60/\∀(r:Addr) (m:Nat) (ts:LAz) (H':Hp),Bu 2 p H H'->Wb H' r m ts->m<=mo->Q (.ref r) H'
@[irreducible] def vW:Sp:=Ac
theorem k7 {vs:List V}{H:Hp}{Q:VK}{E:XK}:vW vs H Q E↔Ac vs H Q E:=by
 delta vW
 exact Ge
section
theorem cW:aG ["pot", "most", "room", "many", "shape", "ties", "place", "extra", "turn", "one", "other"] ["pot", "most", "room"] (au zI):=⟨rfl,rfl,rfl,by decide +kernel,rfl,by decide +kernel,by decide +kernel⟩
theorem uN:(["tie"]:List Str).Nodup:=by decide +kernel
theorem De (F:Fun K "_law_web" "_law_web" zI f fd)(B:Blt mg)(cLTake:Cal P w K mg base 1 "_law_take" ["pot", "many"] fg):aV P w K mg base CX0 2 f fd ["pot", "most", "room"] vW:=by
 refine F.ok cW (λvs H Q E h =>?_) (λcdv A outer s H vs Q E hr h =>?_)
 ·obtain ⟨_,_,_,rfl,_⟩:=k7.mp h
  rfl
 obtain ⟨p,mo,rm,rfl,hp,mo4,rm2,q⟩:=k7.mp h
 refine ⟨_,(ah (aB (i:=3) cW.nd rfl (Or.inl rfl) (ay cLTake hr (by decide) rfl (aa (pv 0) (aa (aD bh (pv 1) ae) ag rfl) rfl)))
  (ah (aB (i:=4) cW.nd rfl (Or.inl rfl) (ay cLTake hr (by decide) rfl (aa (pv 0) (aa ae ag rfl) rfl)))
  (ah (aB (i:=5) cW.nd rfl (Or.inl rfl) (cy ag))
  (ah (bB Fp rfl (aY rfl B.b_range (aa (pv 3) ag rfl)) (aE (i:=6) cW.nd rfl (Or.inl rfl))
   (ah (aU (aA bN (pv 4) ae (aK _)) (aq (da (gA FY Ga Gb cg (pv 5) (aa (bw (aa (pv 6) (aa (aD cx (aD bh (pv 6) ae) (pv 3)) ag rfl) rfl)) ag rfl)))) aM)
   (ah (aU (PW.pt (cK (aA bN (pv 4) ae (aK _)) (bX (aA mF (pv 6) ae (aK _))))) (aq (da (gA FY Ga Gb cg (pv 5) (aa (bw (aa (ay cLTake hr (by decide) rfl (aa (pv 0) (aa (pv 6) ag rfl) rfl)) (aa (pv 6) ag rfl) rfl)) ag rfl)))) aM)
   (aq (aU (aA bN (pv 4) ae (aK _)) (aq (da (gA FY PySem.F.slot_list_extend PySem.F.type_list_extend wX (pv 5) (aa (cc ig (cy (aa (bw (aa (pv 6) (aa (aD cx (aD bh (pv 6) ae) (pv 3)) ag rfl) rfl)) (aa (bw (aa (pv 6) (aa (aD cx (aD bh (pv 6) (aD pR (pv 3) ae)) (pv 3)) ag rfl) rfl)) ag rfl) rfl)) cN (cO (aD bh ae (aD cx (pv 6) ae)))) ag rfl)))) aM)))) (λ_=>rfl))
  (ah (aB (i:=7) cW.nd rfl (Or.inl rfl) (ay cLTake hr (by decide) rfl (aa (pv 0) (aa (aD bh (pv 2) ae) ag rfl) rfl)))
  (ah (aU (aA bN (pv 3) ae (aK _)) (aq (aB (i:=7) cW.nd rfl (Or.inl rfl) ae)) aM)
  (ah (bB Fp rfl (aY rfl B.b_range (aa (pv 7) ag rfl)) (aE (i:=8) cW.nd rfl (Or.inl rfl))
   (ah (aB (i:=9) cW.nd rfl (Or.inl rfl) (ay cLTake hr (by decide) rfl (aa (pv 0) (aa (pv 3) ag rfl) rfl)))
   (ah (aB (i:=10) cW.nd rfl (Or.inl rfl) (ay cLTake hr (by decide) rfl (aa (pv 0) (aa (pv 3) ag rfl) rfl)))
   (ah (aU (aA bN (pv 4) ae (aK _)) (aq (aB (i:=10) cW.nd rfl (Or.inl rfl) (aD cx (aD cx (aD bh (pv 9) (aD ko ae (pv 10))) (aI (ie rfl) rfl B.b_max kM (aa ae (aa (pv 3) ag rfl) rfl))) (pv 3)))) aM)
   (ah (aU (PW.pt (cK (aA bN (ay cLTake hr (by decide) rfl (aa (pv 0) (aa ae ag rfl) rfl)) ae (aK _)) (bX (aA (CZ hr) (pv 5) (cy ag) (aK _))))) (aq (ki (ax bz (pv 5) (ay cLTake hr (by decide) rfl (aa (pv 0) (aa (aI aO rfl B.b_len bW (aa (pv 5) ag rfl)) ag rfl) rfl)) (λ_ _=>rfl)) (mC rfl (bY (aE (i:=9) cW.nd rfl (Or.inl rfl)) (bY (aE (i:=10) cW.nd rfl (Or.inl rfl)) jD))) rfl rfl rfl)) aM)
   (aq (aU (PW.pt (gm (aA lD (pv 9) (pv 10) (aK _)) (fM (aA bN (ay cLTake hr (by decide) rfl (aa (pv 0) (aa ae ag rfl) rfl)) ae (aK _))))) (aq (da (gA FY Ga Gb cg (pv 5) (aa (bw (aa (pv 9) (aa (pv 10) ag rfl) rfl)) ag rfl)))) aM)))))) (λ_=>rfl))
  (aq (aF (bw (aa (pv 3) (aa (bq aZ rfl B.b_tuple cR (aa (aI qe rfl B.b_sorted iC (aa (bc ["tie"] [none] rfl (bp (cc ig (pv 5) cN (cO (pv 2)))) rfl (λ_ _ _ _ _=>(aE (i:=0) uN rfl (Or.inl rfl))) (λ_ _ _ _ _=>cf) (λ_ _ _ _ _=>(bw (aa (aI (xv rfl) rfl B.b_min kN (aa (pv 0) ag rfl)) (aa (aI (xw rfl) rfl B.b_max kM (aa (pv 0) ag rfl)) ag rfl) rfl)))) ag rfl)) ag rfl)) ag rfl) rfl))))))))))),?_⟩
 refine ⟨_,rfl,_,rfl,_,_,rfl,rfl,aN.mpr ⟨p,(mo:Int)+1,rfl,hp,by lia,by lia,λdm H1 d0 d1 b1 =>?_⟩⟩
 obtain ⟨m,rfl⟩:∃m:Nat,dm=m:=⟨dm.toNat,by lia⟩
 refine ⟨_,rfl,aN.mpr ⟨p,5,rfl,b1.pot,by decide,by decide,λsh H2 s0 s1 b2 =>?_⟩⟩
 have b12:=b1.trans b2
 refine ⟨(by show 0<=ES;decide),λl hl =>?_⟩
 have nl:l≠p:=kZ b2.pot hl
 have hl0:H l=none:=zZ b12 hl nl
 have b3:=b12.same (ak hl (.lst []))
 have T3:TL m 0 (upd H2 l (.lst [])) l:=⟨[],ai,(λu h=>nomatch h),(λu h=>nomatch h),EI _⟩
 generalize upd H2 l (.lst [])=H3 at b3 T3
 let W0:Nat->St->Hp->Prop:=λk σ H'=>(∃c6,σ=[some (.ref p),some (.int mo),some (.int rm),some (.int (m:Nat)),some (.int sh),some (.ref l),c6,none,none,none,none])/\Bu 2 p H H'/\TL m (4*k) H' l
 refine ⟨_,rfl,(m:Int),rfl,by lia,by lia,cV W0 ⟨⟨_,rfl⟩,b3,T3⟩ ?_ ?_⟩
 ·rintro k σ H4 hk ⟨⟨c6,rfl⟩,b4,T4⟩
  have km:k<m:=by lia
  have md:(0:Int)<(m:Int):=by lia
  have x0:=GF ((0+(k:Int))+1) (b:=(m:Int)) (by lia)
  have x1:=Gx ((0+(k:Int))+1) (b:=(m:Int)) (by lia)
  refine ⟨_,rfl,rfl,_,rfl,iH (λσ' H'=>σ'=[some (.ref p),some (.int mo),some (.int rm),some (.int (m:Nat)),some (.int sh),some (.ref l),some (.int (0+(k:Nat))),none,none,none,none]/\Bu 2 p H H'/\TL m (4*k+1) H' l) ?_ (λhP z =>?_) λz=>⟨rfl,b4,T4.mono (by lia)⟩⟩
  case refine_2 =>
   obtain ⟨us,el,tu,pu,lu⟩:=T4
   refine ⟨_,rfl,.inl ⟨rfl,_,SqL.of el⟩,_,rfl,_,rfl,_,_,rfl,rfl,_,rfl,_,_,rfl,rfl,md,(by show 2<=ES;decide),λt ht =>?_⟩
   have gt:=ak ht (.tup [.int (0+(k:Int)),.int ((0+(k:Int)+1)%(m:Int))])
   have el':=gt _ _ el
   have et':upd H4 t (.tup [.int (0+(k:Int)),.int ((0+(k:Int)+1)%(m:Int))]) t=some (.tup [.int (0+(k:Int)),.int ((0+(k:Int)+1)%(m:Int))]):=ai
   have tu':=tu.same gt
   generalize upd H4 t (.tup [.int (0+(k:Int)),.int ((0+(k:Int)+1)%(m:Int))])=HN at gt el' et' tu'
   refine ⟨l,_,_,rfl,rfl,el',dD (by rw[Ex];lia),?_⟩
   have TN:=TL.snoc (m:=m) (n:=us.length+1) el' tu' pu (BH et') (in1 (by lia) (by lia) x0 x1) (EI _)
   exact hP _ _ ⟨rfl,(b4.same gt).cF hl0 nl _,TN.mono (by lia)⟩
  rintro σ H5 ⟨rfl,b5,T5⟩
  refine ⟨_,rfl,rfl,_,rfl,pD (λσ' H'=>σ'=[some (.ref p),some (.int mo),some (.int rm),some (.int (m:Nat)),some (.int sh),some (.ref l),some (.int (0+(k:Nat))),none,none,none,none]/\Bu 2 p H H'/\TL m (4*k+2) H' l) ?_ (λhP hb =>?_) ⟨rfl,b5,T5.mono (by lia)⟩⟩
  case refine_2 =>
   refine ⟨_,rfl,_,_,rfl,rfl,_,rfl,dE (λz =>?_) λz=>hP _ _ ⟨rfl,b5,T5.mono (by lia)⟩⟩
   have k0:(0:Int)<0+(k:Int):=of_decide_eq_true z
   obtain ⟨us,el,tu,pu,lu⟩:=T5
   refine ⟨_,rfl,.inl ⟨rfl,_,SqL.of el⟩,_,rfl,_,rfl,aN.mpr ⟨p,0+(k:Int),rfl,b5.pot,k0,by lia,λd6 H6 e0 e1 b6 =>?_⟩⟩
   have el:=b6.st _ _ nl el
   have tu:=tu.bu b6 b5.pot
   refine ⟨_,rfl,(by show 2<=ES;decide),λt ht =>?_⟩
   have gt:=ak ht (.tup [.int (d6),.int (0+(k:Int))])
   have el':=gt _ _ el
   have et':upd H6 t (.tup [.int (d6),.int (0+(k:Int))]) t=some (.tup [.int (d6),.int (0+(k:Int))]):=ai
   have tu':=tu.same gt
   generalize upd H6 t (.tup [.int (d6),.int (0+(k:Int))])=HN at gt el' et' tu'
   refine ⟨l,_,_,rfl,rfl,el',dD (by rw[Ex];lia),?_⟩
   have TN:=TL.snoc (m:=m) (n:=us.length+1) el' tu' pu (BH et') (in1 e0 (by lia) (by lia) (by lia)) (EI _)
   exact hP _ _ ⟨rfl,((b5.trans b6).same gt).cF hl0 nl _,TN.mono (by lia)⟩
  rintro σ H6 ⟨rfl,b6,T6⟩
  refine ⟨_,rfl,rfl,_,rfl,dE (λz =>?_) λz=>⟨⟨_,rfl⟩,b6,T6.mono (by lia)⟩⟩
  obtain ⟨us,el,tu,pu,lu⟩:=T6
  have y0:=GF ((0+(k:Int))+(m:Int)/2) (b:=(m:Int)) (by lia)
  have y1:=Gx ((0+(k:Int))+(m:Int)/2) (b:=(m:Int)) (by lia)
  refine ⟨_,rfl,.inl ⟨rfl,_,SqL.of el⟩,_,rfl,_,rfl,_,_,rfl,rfl,_,rfl,_,_,rfl,rfl,md,(by show 2<=ES;decide),λt1 ht1 =>?_⟩
  obtain ⟨H7,zQ9,g1,e1⟩:=nwZ ht1 (.tup [.int (0+(k:Int)),.int ((0+(k:Int)+1)%(m:Int))])
  rw[zQ9]
  refine ⟨_,rfl,_,rfl,_,rfl,_,_,rfl,rfl,⟨by decide,by decide⟩,_,_,rfl,rfl,_,rfl,_,_,rfl,rfl,md,(by show 2<=ES;decide),λt2 ht2 =>?_⟩
  obtain ⟨H8,zQ9,g2,e2⟩:=nwZ ht2 (.tup [.int (0+(k:Int)),.int ((0+(k:Int)+(m:Int)/2)%(m:Int))])
  rw[zQ9]
  refine ⟨(by show 2<=ES;decide),λc1 hc1 =>?_⟩
  have g3:=ak hc1 (.lst [.ref t1,.ref t2])
  refine ⟨_,rfl,_,_,rfl,rfl,(by show (0:Int)<2;decide),_,_,rfl,rfl,_,rfl,c1,_,rfl,SqL.of ai,λc2 hc2 =>?_⟩
  obtain ⟨Y,eY,lY,mY⟩:=cutT (λu:Addr×List Int=>V.ref u.1) [(t1,[0+(k:Int),(0+(k:Int)+1)%(m:Int)]),(t2,[0+(k:Int),(0+(k:Int)+(m:Int)/2)%(m:Int)])] none (some (1+(0+(k:Int))%2))
  have eY:cS [V.ref t1,V.ref t2] none (some (1+(0+(k:Int))%2))=Y.map λu=>V.ref u.1:=eY
  rw[eY]
  generalize upd H8 c1 (.lst [.ref t1,.ref t2])=H9 at g3 hc2
  have g4:=g3.trans (ak hc2 (.lst (Y.map λu=>V.ref u.1)))
  have ec2:upd H9 c2 (.lst (Y.map λu=>V.ref u.1)) c2=some (.lst (Y.map λu=>V.ref u.1)):=ai
  generalize upd H9 c2 (.lst (Y.map λu=>V.ref u.1))=H10 at g4 ec2
  have g14:=g1.trans (g2.trans g4)
  have tY:Tus H10 Y:=λu hu=>by
   rcases EW.mp (mY u hu) with h | h
   ·rw[h];exact g4 _ _ (g2 _ _ e1)
   ·rw[ED.mp h];exact g4 _ _ e2
  have pY:∀u∈Y,∃a b:Int,u.2=[a,b]/\0<=a/\a<m/\0<=b/\b<m:=λu hu=>by
   rcases EW.mp (mY u hu) with h | h
   ·rw[h];exact ⟨_,_,rfl,by lia,by lia,x0,x1⟩
   ·rw[ED.mp h];exact ⟨_,_,rfl,by lia,by lia,y0,y1⟩
  have lY:Y.length<=2:=lY
  have TN:=TL.snoc (m:=m) (n:=4*(k+1)) (g14 _ _ el) (tu.same g14) pu tY pY (by lia)
  exact ⟨l,c2,_,_,rfl,rfl,g14 _ _ el,ec2,aW (by rw[Ex,Ex];lia),⟨_,rfl⟩,(b6.same g14).cF hl0 nl _,TN⟩
 rintro σ H4 ⟨⟨c6,rfl⟩,b4,T4⟩
 have T4:=T4.mono (n':=160) (by lia)
 refine ⟨_,rfl,_,rfl,_,_,rfl,rfl,aN.mpr ⟨p,(rm:Int)+1,rfl,b4.pot,by lia,by lia,λex H5 ex0 ex1 b5 =>?_⟩⟩
 have T5:=T4.bu b5 b4.pot nl
 have b45:=b4.trans b5
 refine ⟨_,rfl,rfl,_,rfl,iH (λσ' H'=>(∃e:Nat,σ'=[some (.ref p),some (.int mo),some (.int rm),some (.int (m:Nat)),some (.int sh),some (.ref l),c6,some (.int (e:Nat)),none,none,none]/\e<=200/\(0<e->0<m))/\Bu 2 p H H'/\TL m 160 H' l) ?_ (λhP z=>hP _ _ ⟨⟨0,rfl,by decide,λh=>absurd h (Fl _)⟩,b45,T5⟩) λz=>⟨⟨ex.toNat,by rw[show ((ex.toNat:Nat):Int)=ex by lia];rfl,by lia,λ_ =>?_⟩,b45,T5⟩⟩
 case refine_2 =>
  rw[Dc] at z
  have z:¬ (m:Int)=0:=of_decide_eq_false (by simpa using z)
  lia
 rintro σ H6 ⟨⟨e,rfl,e2,em⟩,b6,T6⟩
 let W1:Nat->St->Hp->Prop:=λt σ H'=>(∃c8 c9 c10,σ=[some (.ref p),some (.int mo),some (.int rm),some (.int (m:Nat)),some (.int sh),some (.ref l),c6,some (.int (e:Nat)),c8,c9,c10])/\Bu 2 p H H'/\TL m (160+t) H' l
 refine ⟨_,rfl,(e:Int),rfl,by lia,by lia,cV W1 ⟨⟨_,_,_,rfl⟩,b6,T6⟩ ?_ ?_⟩
 ·rintro t σ H7 ht0 ⟨⟨c8,c9,c10,rfl⟩,b7,T7⟩
  have m0:0<m:=em (by lia)
  have md:(0:Int)<(m:Int):=by lia
  refine ⟨_,rfl,_,rfl,aN.mpr ⟨p,(m:Int),rfl,b7.pot,md,by lia,λx H8 x0 x1 b8 =>?_⟩⟩
  refine ⟨_,rfl,_,rfl,aN.mpr ⟨p,(m:Int),rfl,b8.pot,md,by lia,λy H9 y0 y1 b9 =>?_⟩⟩
  have b79:=(b7.trans b8).trans b9
  have T9:=(T7.bu b8 b7.pot nl).bu b9 b8.pot nl
  refine ⟨_,rfl,rfl,_,rfl,iH (λσ' H'=>(∃y:Int,σ'=[some (.ref p),some (.int mo),some (.int rm),some (.int (m:Nat)),some (.int sh),some (.ref l),c6,some (.int (e:Nat)),some (.int (0+(t:Nat))),some (.int x),some (.int y)]/\0<=y/\y<m)/\Bu 2 p H H'/\TL m (160+t) H' l) ?_ (λhP z =>?_) λz=>⟨⟨y,rfl,y0,y1⟩,b79,T9⟩⟩
  case refine_2 =>
   refine ⟨_,rfl,_,rfl,_,_,rfl,rfl,.inl ⟨by decide,by decide⟩,_,_,rfl,rfl,_,rfl,_,_,rfl,_,_,rfl,rfl,(by show (0:Int)<if (m:Int)>2 then (m:Int) else 2;split <;> lia),_,rfl,_,_,rfl,rfl,md,hP _ _ ⟨⟨_,rfl,GF _ (by lia),Gx _ md⟩,b79,T9⟩⟩
  clear y0 y1
  rintro σ H10 ⟨⟨y,rfl,y0,y1⟩,b10,T10⟩
  refine ⟨_,rfl,aN.mpr ⟨p,6,rfl,b10.pot,by decide,by decide,λd6 H11 f0 f1 b11=>⟨rfl,_,rfl,?_⟩⟩⟩
  have b1011:=b10.trans b11
  have T11:=T10.bu b11 b10.pot nl
  refine pD (λσ' H'=>(∃x y:Int,σ'=[some (.ref p),some (.int mo),some (.int rm),some (.int (m:Nat)),some (.int sh),some (.ref l),c6,some (.int (e:Nat)),some (.int (0+(t:Nat))),some (.int x),some (.int y)]/\(0<=x/\x<m)/\0<=y/\y<m)/\Bu 2 p H H'/\TL m (160+t) H' l) ?_ (λhP hb =>?_) ⟨⟨x,y,rfl,⟨x0,x1⟩,y0,y1⟩,b1011,T11⟩
  case refine_2 =>
   refine ⟨_,rfl,(by show 0<=ES;decide),λz1 hz1 =>?_⟩
   have g12:=ak hz1 (.lst [])
   have b12:=b1011.same g12
   obtain ⟨us,el,tu,pu,lu⟩:=T11
   refine ⟨l,z1,_,rfl,rfl,g12 _ _ el,ai,λh=>⟨_,rfl,aQ (hP _ _ ⟨⟨x,y,rfl,⟨x0,x1⟩,y0,y1⟩,b12,us,g12 _ _ el,tu.same g12,pu,lu⟩)⟩,λh=>⟨_,rfl,aP ?_⟩⟩
   have ul:0<us.length:=Gv.mpr λe=>h (by rw[e];rfl)
   have el12:=g12 _ _ el
   have tu12:=tu.same g12
   generalize upd H11 z1 (.lst [])=H12 at g12 b12 el12 tu12
   refine ⟨_,rfl,_,rfl,_,rfl,l,_,rfl,.inl (SqL.of el12),aN.mpr ⟨p,(us.length:Int),by rw[Ex];rfl,b12.pot,by lia,by lia,λdq H13 q0 q1 b13 =>?_⟩⟩
   obtain ⟨u,um,hat⟩:=Bm (g:=λu:Addr×List Int=>u.1) (ts:=us) q0 q1
   obtain ⟨a,b,eu,a0,a1,c0,c1⟩:=pu u um
   have e13:=tu12.bu b13 b12.pot u um
   rw[eu] at e13
   have el13:=b13.st _ _ nl el12
   refine ⟨l,_,dq,_,rfl,rfl,SqL.of el13,hat,u.1,_,rfl,SqT.of e13,rfl,_,_,rfl,_,_,rfl,rfl,hP _ _ ⟨⟨a,b,rfl,⟨a0,a1⟩,c0,c1⟩,b12.trans b13,us,el13,tu12.bu b13 b12.pot,pu,lu⟩⟩
  clear x0 x1 y0 y1
  rintro σ H12 ⟨⟨x,y,rfl,⟨x0,x1⟩,y0,y1⟩,b12,T12⟩
  refine ⟨_,rfl,_,rfl,rfl,_,rfl,dE (λz=>aP ?_) λz =>?_⟩
  ·obtain ⟨us,el,tu,pu,lu⟩:=T12
   refine ⟨_,rfl,.inl ⟨rfl,_,SqL.of el⟩,_,rfl,_,rfl,(by show 2<=ES;decide),λt ht =>?_⟩
   have gt:=ak ht (.tup [.int (x),.int (y)])
   have el':=gt _ _ el
   have et':upd H12 t (.tup [.int (x),.int (y)]) t=some (.tup [.int (x),.int (y)]):=ai
   have tu':=tu.same gt
   generalize upd H12 t (.tup [.int (x),.int (y)])=HN at gt el' et' tu'
   refine ⟨l,_,_,rfl,rfl,el',dD (by rw[Ex];lia),?_⟩
   have TN:=TL.snoc (m:=m) (n:=us.length+1) el' tu' pu (BH et') (in1 x0 x1 y0 y1) (EI _)
   exact ⟨⟨_,_,_,rfl⟩,(b12.same gt).cF hl0 nl _,TN.mono (by lia)⟩
  ·refine ⟨_,rfl,aN.mpr ⟨p,3,rfl,b12.pot,by decide,by decide,λd3 H13 f0 f1 b13=>⟨rfl,_,rfl,?_⟩⟩⟩
   have b1213:=b12.trans b13
   have T13:=T12.bu b13 b12.pot nl
   refine dE (λz =>?_) λz=>⟨⟨_,_,_,rfl⟩,b1213,T13.mono (by lia)⟩
   obtain ⟨us,el,tu,pu,lu⟩:=T13
   refine ⟨_,rfl,.inl ⟨rfl,_,SqL.of el⟩,_,rfl,_,rfl,(by show 2<=ES;decide),λt ht =>?_⟩
   have gt:=ak ht (.tup [.int (x),.int (y)])
   have el':=gt _ _ el
   have et':upd H13 t (.tup [.int (x),.int (y)]) t=some (.tup [.int (x),.int (y)]):=ai
   have tu':=tu.same gt
   generalize upd H13 t (.tup [.int (x),.int (y)])=HN at gt el' et' tu'
   refine ⟨l,_,_,rfl,rfl,el',dD (by rw[Ex];lia),?_⟩
   have TN:=TL.snoc (m:=m) (n:=us.length+1) el' tu' pu (BH et') (in1 x0 x1 y0 y1) (EI _)
   exact ⟨⟨_,_,_,rfl⟩,(b1213.same gt).cF hl0 nl _,TN.mono (by lia)⟩
 ·rintro σ H7 ⟨⟨c8,c9,c10,rfl⟩,b7,us,el,tu,pu,lu⟩
  refine ⟨_,rfl,_,rfl,_,rfl,_,rfl,l,_,rfl,SqL.of el,λc1 hc1 =>?_⟩
  rw[Ab, <- IH]
  have lt:(us.take rm).length<=rm:=List.length_take_le _ _
  have tk:∀u∈us.take rm,u∈us:=λu hu=>Gp hu
  generalize us.take rm=vs at lt tk
  have g8:=ak hc1 (.lst (vs.map λu=>V.ref u.1))
  have ec1:upd H7 c1 (.lst (vs.map λu=>V.ref u.1)) c1=some (.lst (vs.map λu=>V.ref u.1)):=ai
  have b8:=b7.same g8
  have tv:Tus (upd H7 c1 (.lst (vs.map λu=>V.ref u.1))) vs:=λu hu=>g8 _ _ (tu u (tk u hu))
  generalize upd H7 c1 (.lst (vs.map λu=>V.ref u.1))=H8 at g8 ec1 b8 tv
  let W2:Nat->List V->Hp->Prop:=λi ys H'=>az H8 H'/\∃ws:LAz,ys=ws.map (λu =>.ref u.1)/\Tus H' ws/\(∀u∈ws,∃a b:Int,u.2=[a,b]/\0<=a/\a<=b/\b<m)/\ws.length<=i
  refine ⟨c1,rfl,⟨_,SqL.of ec1⟩,bx (xs:=vs.map λu =>.ref u.1) W2 ⟨az.refl _,[],rfl,(λu h=>nomatch h),(λu h=>nomatch h),EI _⟩ (by rw[Ex];exact aW (by lia)) (λi ys H' _ h=>SqL.of (h.1 _ _ ec1)) ?_ ?_⟩
  ·rintro i x ys H9 hx _ ⟨s9,ws,rfl,tw,pw,lw⟩ R1 R0 r1 r0
   obtain ⟨u,eu,rfl⟩:=dY hx
   have um:=EH eu
   obtain ⟨a,b,ab,a0,a1,c0,c1⟩:=pu u (tk u um)
   have e9:=s9 _ _ (tv u um)
   rw[ab] at e9
   refine aP ⟨_,rfl,u.1,a,b,rfl,SqT.of e9,_,rfl,u.1,a,b,rfl,SqT.of e9,(by show 2<=ES;decide),λt ht=>r1 _ _ ⟨s9.trans (ak ht _),ws++[(t,[if b<a then b else a,if b>a then b else a])],by rw[ER];rfl,(tw.same (ak ht _)).snoc ai,λv hv =>?_,by rw[EE];show _+1<=_;lia⟩⟩
   rcases EU.mp hv with z | z
   ·exact pw v z
   ·rw[ED.mp z]
    exact ⟨_,_,rfl,by split <;> lia,by split <;> split <;> lia,by split <;> lia⟩
  ·rintro ys H9 _ ⟨s9,ws,rfl,tw,pw,lw⟩ l1 hl1
   rw[Ex] at lw
   have g1:=ak hl1 (.lst (ws.map λu=>V.ref u.1))
   refine ⟨l1,ws,rfl,.inl (SqL.of ai),λt ht=>⟨SqT.of (g1 _ _ (tw t ht)),λz =>?_⟩,by lia,λl2 out hl2 pm _=>⟨l2,_,rfl,.inl ⟨SqL.of ai,λl3 hl3=>⟨(by show 2<=ES;decide),λr hr =>?_⟩⟩⟩⟩
   ·obtain ⟨a,b,e,_⟩:=pw t ht
    rw[e] at z;cases z
   ·have g2:=ak hl2 (.lst (out.map λt=>V.ref t.1))
    have g3:=ak hl3 (.tup (out.map λt=>V.ref t.1))
    have g4:=ak hr (.tup [.int m,.ref l3])
    refine q r m out _ (b8.same (s9.trans (g1.trans (g2.trans (g3.trans g4))))) ⟨⟨l3,ai,g4 _ _ ai⟩,λu hu=>g4 _ _ (g3 _ _ (g2 _ _ (g1 _ _ (tw u (pm.mem_iff.mp hu))))),λu hu=>pw u (pm.mem_iff.mp hu),by rw[pm.length_eq];lia⟩ (by lia)
end
def inn (P:List Int)(t:List Int):Bool:=decide (t.getD 0 0∈P) && decide (t.getD 1 0∈P)
def ends (v:Int)(t:List Int):Int:=(if t.getD 0 0=v then 1 else 0)+if t.getD 1 0=v then 1 else 0
def tin (ns:List (List Int))(P:List Int)(v:Int):Int:=((ns.filter (inn P)).map (ends v)).sum
theorem sV (ns:List (List Int))(P:List Int)(t:List Int)(v:Int):tin (ns++[t]) P v=tin ns P v+if inn P t=true then ends v t else 0:=by
 unfold tin
 rw[Hu,ER,M4]
 congr 1
 by_cases c:inn P t=true
 ·rw[if_pos c,Fw c];simp
 ·rw[if_neg c,Fs c];rfl
theorem iJ (v:Int)(t:List Int):0<=ends v t:=by unfold ends;split <;> split <;> lia
theorem vX {K:Ez}{a:Addr}{xs:List V}{g:TG}{tb:TS}{D:Ends}{σ:St}{H:Hp}(Pv:Nat->St->Hp->Prop)(hp:H a=some (.lst xs)\/H a=some (.tup xs))(h0:Pv 0 σ H)(hl:∀i σ H',Pv i σ H'->H' a=H a)
  (hs:∀i x σ H,xs[i]? = some x->Pv i σ H->g x σ H λσ2 H2=>tb { D with nx:=Pv (i+1),ct:=Pv (i+1),bk:=D.nx } σ2 H2) (hd:∀σ H,Pv xs.length σ H->D.nx σ H) :
  ((∃xs,SqL K H a xs)/\yT (Itl K a) g tb D σ H)\/((∃xs,SqT K H a xs)/\yT (Itt K a) g tb D σ H):=by
 rcases hp with hp | hp
 ·exact .inl ⟨⟨_,SqL.of hp⟩,cM Pv h0 (λi σ H' _ z=>SqL.of ((hl i σ H' z).trans hp)) hs hd⟩
 ·exact .inr ⟨⟨_,SqT.of hp⟩,jE Pv h0 (λi σ H' _ z=>SqT.of ((hl i σ H' z).trans hp)) hs hd⟩
theorem rep0:∀m:Nat,(Fn m [V.int 0]).flatten=(Fn m (0:Int)).map V.int
 | 0=>rfl
 | m+1=>by rw[GD,HY,rep0 m,GD];rfl
theorem uO {ws:List Int}{n:Nat}(h:n<ws.length):atI (ws.map V.int) (n:Int)=some (.int (ws.getD n 0)):=cC (by rw[ET,EA h,EF,EA h];rfl)
def Lay (m:Nat)(H:Hp)(U:Addr)(g:Int->Int):Prop:=∃L:List Int,H U=some (.lst (L.map V.int))/\L.length=m/\∀j:Nat,j<m->L.getD j 0=g j
theorem sW {L:List Int}{n j:Nat}{v:Int}(h:n<L.length):(L.set n v).getD j 0=if j=n then v else L.getD j 0:=by
 rw[EF,Mq]
 by_cases c:n=j
 ·subst c;rw[if_pos rfl,if_pos h,if_pos rfl];rfl
 ·rw[if_neg c,if_neg (λz=>c z.symm), <- EF]
theorem ixn {n k:Nat}(h:n<k):ixN k (n:Int)=some n:=by
 unfold ixN
 rw[if_pos (by lia),if_pos (by lia)];rfl
abbrev pE:Sp:=λvs H Q _=>∃(r p:Addr) (m:Nat) (ts:LAz) (P:List Int),vs=[.ref r,.ref p]/\Wb H r m ts/\H p=some (.tup (P.map V.int))/\∀H',az H H'->Q (.int (((ts.map (·.2)).filter (inn P)).length:Nat)) H'
@[irreducible] def jZ:Sp:=pE
theorem f6 {vs:List V}{H:Hp}{Q:VK}{E:XK}:jZ vs H Q E↔pE vs H Q E:=by
 delta jZ
 exact Ge
section
theorem qL:aG ["web", "places"] ["web", "places"] (au gK):=⟨rfl,rfl,rfl,by decide +kernel,rfl,by decide +kernel,by decide +kernel⟩
theorem fE:(["tie", "places"]:List Str).Nodup:=by decide +kernel
theorem qM (F:Fun K "ties_within" "ties_within" gK f fd)(B:Blt mg):aV P w K mg base CX0 1 f fd ["web", "places"] jZ:=by
 refine F.ok qL (λvs H Q E h =>?_) (λcdv A outer s H vs Q E hr h =>?_)
 ·obtain ⟨_,_,_,_,_,rfl,_⟩:=f6.mp h
  rfl
 obtain ⟨r,p,m,ts,P,rfl,W,ep,q⟩:=f6.mp h
 refine ⟨_,(aq (aF (aI aO rfl B.b_len bW (aa (bc ["tie", "places"] [none,some 1] rfl (eR (ax av (pv 0) ae (λ_ _=>rfl))) rfl (λ_ _ _ _ _=>(aE (i:=0) fE rfl (Or.inl rfl))) (λ_ _ _ _ _=>(dO (PW.pt (cK (aA (t6 (K:=K)) (ax (dh (K:=K)) (pv 0) ae (λ_ _=>rfl)) (pv 1) rfl) (bX (aA (t6 (K:=K)) (ax (dh (K:=K)) (pv 0) ae (λ_ _=>rfl)) (pv 1) rfl)))))) (λ_ _ _ _ _=>(pv 0))) ag rfl)))),?_⟩
 obtain ⟨t,e1,e2⟩:=W.at'
 have lum:(ts.map λu=>V.ref u.1).length=ts.length:=Ex _
 have tl:=Ff W.len (show 60<=200 by decide)
 refine ⟨_,rfl,r,_,1,_,rfl,rfl,SqT.of e1,rfl,t,rfl,⟨_,SqT.of e2⟩,dI (xs:=ts.map λu =>.ref u.1) (λi ys H'=>H'=H/\ys=((ts.take i).filter λu=>inn P u.2).map λu=>V.ref u.1) ⟨rfl,rfl⟩ (by rw[lum];exact aW (by lia)) (λi ys H' _ h=>by rw[h.1];exact SqT.of e2) ?_ ?_⟩
 ·rintro i x ys H1 hx _ ⟨rfl,rfl⟩ R1 R0 r1 r0
  obtain ⟨u,eu,rfl⟩:=dY hx
  have um:=EH eu
  obtain ⟨a,b,ab,_⟩:=W.pr u um
  have eu1:=W.tup u um
  have tk:((ts.take (i+1)).filter λu=>inn P u.2)=((ts.take i).filter λu=>inn P u.2)++if inn P u.2=true then [u] else []:=by
   rw[FW,eu,Hu]
   congr 1
   by_cases c:inn P u.2=true
   ·rw[if_pos c,HM,Fw (by exact c)];rfl
   ·rw[if_neg c,HM,Fs (by exact c)];rfl
  have iv:inn P u.2=(decide (a∈P) && decide (b∈P)):=by rw[ab];rfl
  rw[ab] at eu1
  refine ⟨_,rfl,u.1,_,0,_,rfl,rfl,SqT.of eu1,rfl,_,rfl,p,_,rfl,.inr (SqT.of ep),rfl,bM P,_,rfl,?_⟩
  show if inV (.int a) (P.map V.int)=true then _ else _
  rw[sq]
  by_cases ca:a∈P
  ·rw[decide_eq_true ca]
   refine aP ⟨_,rfl,u.1,_,1,_,rfl,rfl,SqT.of eu1,rfl,_,rfl,p,_,rfl,.inr (SqT.of ep),rfl,bM P,_,rfl,?_⟩
   show if inV (.int b) (P.map V.int)=true then _ else _
   rw[sq]
   by_cases cb:b∈P
   ·rw[decide_eq_true cb]
    refine aP ⟨_,rfl,r1 _ _ ⟨rfl,?_⟩⟩
    rw[tk,if_pos (by rw[iv,decide_eq_true ca,decide_eq_true cb];rfl),ER];rfl
   ·rw[decide_eq_false cb]
    refine aQ (r0 _ ⟨rfl,?_⟩)
    rw[tk,if_neg (by rw[iv,decide_eq_false cb,HS];exact EO),FQ]
  ·rw[decide_eq_false ca]
   refine aQ (aQ (r0 _ ⟨rfl,?_⟩))
   rw[tk,if_neg (by rw[iv,decide_eq_false ca,GW];exact EO),FQ]
 rintro ys H1 _ ⟨rfl,rfl⟩ l hl
 rw[lum,FI]
 have lf:(ts.filter λu=>inn P u.2).length=((ts.map (·.2)).filter (inn P)).length:=by rw[Ld,Ex];rfl
 refine ⟨l,_,rfl,.inl (SqL.of ai),?_⟩
 rw[Ex,lf]
 exact q _ (ak hl _)
end
abbrev sX:Sp:=λvs H Q _=>∃(r p:Addr) (m:Nat) (ts:LAz) (P:List Int),vs=[.ref r,.ref p]/\Wb H r m ts/\m<=40/\H p=some (.tup (P.map V.int))/\∀(U:Addr) (H':Hp),az H H'->H U=none->Lay m H' U (tin (ts.map (·.2)) P)->Q (.ref U) H'
@[irreducible] def j3:Sp:=sX
theorem eG {vs:List V}{H:Hp}{Q:VK}{E:XK}:j3 vs H Q E↔sX vs H Q E:=by
 delta j3
 exact Ge
section
theorem gZ:aG ["web", "places", "counts", "tie"] ["web", "places"] (au jb):=⟨rfl,rfl,rfl,by decide +kernel,rfl,by decide +kernel,by decide +kernel⟩
theorem sY (F:Fun K "ties_among" "ties_among" jb f fd)(B:Blt mg):aV P w K mg base CX0 1 f fd ["web", "places"] j3:=by
 refine F.ok gZ (λvs H Q E h =>?_) (λcdv A outer s H vs Q E hr h =>?_)
 ·obtain ⟨_,_,_,_,_,rfl,_⟩:=eG.mp h
  rfl
 obtain ⟨r,p,m,ts,P,rfl,W,m4,ep,q⟩:=eG.mp h
 refine ⟨_,(ah (aB (i:=2) gZ.nd rfl (Or.inl rfl) (aD tW (cy (aa ae ag rfl)) (ax av (pv 0) ae (λ_ _=>rfl))))
  (ah (bB Fp rfl (eR (ax av (pv 0) ae (λ_ _=>rfl))) (aE (i:=3) gZ.nd rfl (Or.inl rfl))
   (aq (aU (PW.pt (cK (aA ij (ax av (pv 3) ae (λ_ _=>rfl)) (pv 1) rfl) (bX (aA ij (ax av (pv 3) ae (λ_ _=>rfl)) (pv 1) rfl)))) (ah (u6 (pv 2) (ax av (pv 3) ae (λ_ _=>rfl)) ph ae yz set_list)
    (aq (u6 (pv 2) (ax av (pv 3) ae (λ_ _=>rfl)) ph ae yz set_list))) aM)) (λ_=>rfl))
  (aq (aF (pv 2))))),?_⟩
 obtain ⟨t,e1,e2⟩:=W.at'
 have lum:(ts.map λu=>V.ref u.1).length=ts.length:=Ex _
 refine ⟨(by show 1<=ES;decide),λo ho =>?_⟩
 have go:=ak ho (.lst [.int 0])
 refine ⟨_,rfl,r,_,0,_,rfl,rfl,SqT.of (go _ _ e1),rfl,o,_,_,rfl,rfl,ai,by lia,by lia,?_,λU hU =>?_⟩
 ·exact aW (by show 1*(m:Int).toNat<=5000;lia)
 have hU0:=go.free hU
 have gU:=go.trans (ak hU (.lst (Fn (m:Int).toNat [V.int 0]).flatten))
 have LU:Lay m (upd (upd H o (.lst [.int 0])) U (.lst (Fn (m:Int).toNat [V.int 0]).flatten)) U (tin ((ts.take 0).map (·.2)) P):=by
  refine ⟨Fn m 0,?_,Ho,λj hj =>?_⟩
  ·rw[ai]
   congr 2
   rw[show (m:Int).toNat=m by lia]
   exact rep0 m
  ·rw[EF,List.getElem?_replicate_of_lt hj]
   rfl
 generalize upd (upd H o (.lst [.int 0])) U (.lst (Fn (m:Int).toNat [V.int 0]).flatten)=H1 at gU LU
 let W0:Nat->St->Hp->Prop:=λi σ H'=>(∃c3,σ=[some (.ref r),some (.ref p),some (.ref U),c3])/\az H H'/\Lay m H' U (tin ((ts.take i).map (·.2)) P)
 refine ⟨_,rfl,r,_,1,_,rfl,rfl,SqT.of (gU _ _ e1),rfl,t,rfl,⟨_,SqT.of (gU _ _ e2)⟩,jE (xs:=ts.map λu =>.ref u.1) W0 ⟨⟨_,rfl⟩,gU,LU⟩ (λi σ H' _ h=>SqT.of (h.2.1 _ _ e2)) ?_ ?_⟩
 ·rintro i x σ H2 hx ⟨⟨c3,rfl⟩,s2,L,eL,lL,aL⟩
  obtain ⟨u,eu,rfl⟩:=dY hx
  have um:=EH eu
  obtain ⟨a,b,ab,a0,ab',bm⟩:=W.pr u um
  have eu2:=s2 _ _ (W.tup u um)
  have tk:∀v,tin ((ts.take (i+1)).map (·.2)) P v=tin ((ts.take i).map (·.2)) P v+if inn P u.2=true then ends v u.2 else 0:=λv=>by
   rw[<- sV,FW,eu,ER];rfl
  have iv:inn P u.2=(decide (a∈P) && decide (b∈P)):=by rw[ab];rfl
  rw[ab] at eu2
  refine ⟨_,rfl,u.1,_,0,_,rfl,rfl,SqT.of eu2,rfl,_,rfl,p,_,rfl,.inr (SqT.of (s2 _ _ ep)),rfl,bM P,_,rfl,?_⟩
  show if inV (.int a) (P.map V.int)=true then _ else _
  rw[sq]
  by_cases ca:a∈P
  case neg =>
   rw[decide_eq_false ca]
   refine aQ (aQ ⟨⟨_,rfl⟩,s2,L,eL,lL,λj hj =>?_⟩)
   rw[aL j hj,tk,if_neg (by rw[iv,decide_eq_false ca,GW];exact EO),Lf]
  rw[decide_eq_true ca]
  refine aP ⟨_,rfl,u.1,_,1,_,rfl,rfl,SqT.of eu2,rfl,_,rfl,p,_,rfl,.inr (SqT.of (s2 _ _ ep)),rfl,bM P,_,rfl,?_⟩
  show if inV (.int b) (P.map V.int)=true then _ else _
  rw[sq]
  by_cases cb:b∈P
  case neg =>
   rw[decide_eq_false cb]
   refine aQ ⟨⟨_,rfl⟩,s2,L,eL,lL,λj hj =>?_⟩
   rw[aL j hj,tk,if_neg (by rw[iv,decide_eq_false cb,HS];exact EO),Lf]
  rw[decide_eq_true cb]
  obtain ⟨na,rfl⟩:∃n:Nat,a=n:=⟨a.toNat,by lia⟩
  obtain ⟨nb,rfl⟩:∃n:Nat,b=n:=⟨b.toNat,by lia⟩
  refine aP ⟨_,rfl,_,rfl,u.1,_,0,_,rfl,rfl,SqT.of eu2,rfl,U,_,na,.int (L.getD na 0),rfl,rfl,SqL.of eL,(by rw[ET,EA (by lia),EF,EA (by lia)];rfl),_,_,rfl,rfl,U,_,na,na,rfl,rfl,eL,(by rw[Ex];exact ixn (by lia)),?_⟩
  have s3:az H (upd H2 U (.lst ((L.map V.int).set na (.int (L.getD na 0+1))))):=az.cF s2 hU0 _
  have e3:upd H2 U (.lst ((L.map V.int).set na (.int (L.getD na 0+1)))) U=some (.lst ((L.set na (L.getD na 0+1)).map V.int)):=by rw[ai,MB]
  generalize upd H2 U (.lst ((L.map V.int).set na (.int (L.getD na 0+1))))=H3 at s3 e3
  have eu3:=s3 _ _ (W.tup u um)
  rw[ab] at eu3
  have l3:(L.set na (L.getD na 0+1)).length=m:=by rw[HD];exact lL
  have a3:∀j:Nat,(L.set na (L.getD na 0+1)).getD j 0=if j=na then L.getD na 0+1 else L.getD j 0:=λj=>sW (by lia)
  generalize L.set na (L.getD na 0+1)=L3 at e3 l3 a3
  refine ⟨_,rfl,_,rfl,u.1,_,1,_,rfl,rfl,SqT.of eu3,rfl,U,_,nb,.int (L3.getD nb 0),rfl,rfl,SqL.of e3,(by rw[ET,EA (by lia),EF,EA (by lia)];rfl),_,_,rfl,rfl,U,_,nb,nb,rfl,rfl,e3,(by rw[Ex];exact ixn (by lia)),⟨_,rfl⟩,az.cF s3 hU0 _,L3.set nb (L3.getD nb 0+1),by rw[ai,MB],by rw[HD];exact l3,λj hj =>?_⟩
  have ivt:inn P u.2=true:=by rw[iv,decide_eq_true ca,decide_eq_true cb];rfl
  rw[sW (by lia),a3 nb,a3 j,tk,if_pos ivt, <- aL j hj,ab]
  show _=L.getD j 0+((if (na:Int)=(j:Int) then (1:Int) else 0)+if (nb:Int)=(j:Int) then (1:Int) else 0)
  by_cases c1:j=nb <;> by_cases c2:j=na <;> by_cases c3:nb=na
  all_goals first | lia | (simp only[c1,c2,c3,if_true,if_false,Int.natCast_inj,eq_comm];try simp;try lia)
 ·rintro σ H2 ⟨⟨c3,rfl⟩,s2,L2⟩
  rw[lum,FI] at L2
  exact ⟨_,rfl,q U _ s2 hU0 L2⟩
end
structure Exs (K:Ez)(mg:Str->Option EB)(n0:Addr):Prop where
 m0:mg "NOUGHT" = some (.ref n0)
 l0:∀H:Hp,Two K H n0 0 1
theorem Two.put {K:Ez}{H:Hp}{p l:Addr}{a b:Int}{xs:List V}{o:HO}(h:Two K H p a b)(e:H l=some (.lst xs)):Two K (upd H l o) p a b:=by
 rcases h with (h | ⟨u,h⟩) | h
 ·exact .inl (.inl (by rw[aH (lC h e nofun)];exact h))
 ·exact .inl (.inr ⟨u,by rw[aH (lC h e nofun)];exact h⟩)
 ·exact .inr h
def fh (K:Ez)(m:Nat)(H:Hp)(U:Addr)(g:Nat->Int×Int):Prop:=∃us:List (Addr×Int×Int),H U=some (.lst (us.map λu =>.ref u.1))/\us.length=m/\(∀u∈us,Two K H u.1 u.2.1 u.2.2)/\∀(j:Nat) u,us[j]? = some u->u.2=g j
theorem fh.same {K:Ez}{m:Nat}{H H':Hp}{U:Addr}{g:Nat->Int×Int}(h:fh K m H U g)(s:az H H'):fh K m H' U g:=by
 obtain ⟨us,e,l,t,v⟩:=h
 exact ⟨us,s _ _ e,l,λu hu=>(t u hu).same s,v⟩
theorem fh.put {K:Ez}{m n:Nat}{H:Hp}{U z:Addr}{g:Nat->Int×Int}{us:List (Addr×Int×Int)}{a b:Int}(e:H U=some (.lst (us.map λu =>.ref u.1)))(l:us.length=m)(t:∀u∈us,Two K H u.1 u.2.1 u.2.2)(v:∀(j:Nat) u,us[j]? = some u->u.2=g j)(hn:n<m)(tz:Two K H z a b):fh K m (upd H U (.lst ((us.map λu=>V.ref u.1).set n (.ref z)))) U λj=>if j=n then (a,b) else g j:=by
 refine ⟨us.set n (z,a,b),by rw[ai,MB],by rw[HD];exact l,λu hu =>?_,λj u hu =>?_⟩
 ·rcases List.mem_or_eq_of_mem_set hu with h | h
  ·exact (t u h).put e
  ·rw[h];exact tz.put e
 ·rw[Mq] at hu
  dsimp only
  by_cases c:n=j
  ·subst c
   rw[if_pos rfl,if_pos (by lia)] at hu
   rw[if_pos rfl, <- EX hu]
  ·rw[if_neg c] at hu
   rw[if_neg (λz=>c z.symm)]
   exact v j u hu
def tkv (tie:Bool)(h:Int->Int)(s0 s1:Int)(S:List Int)(j:Nat):Int×Int:=if (j:Int)∈S then (if tie=true then (rt (s0*(h j-1)) s1,rb (s0*(h j-1)) s1) else (s0,s1)) else (0,1)
theorem Df (n0:Addr):∀m:Nat,(Fn m [V.ref n0]).flatten=(Fn m (n0,(0:Int),(1:Int))).map λu=>V.ref u.1
 | 0=>rfl
 | m+1=>by rw[GD,HY,Df n0 m,GD];rfl
def wrd (tie:Bool):Str:=if tie=true then "ties" else "ring"
theorem Dg {l:List (List Int)}(v:Int):0<=(l.map (ends v)).sum/\(l.map (ends v)).sum<=2*(l.length:Int):=by
 induction l with
 | nil=>exact ⟨IE _,IE _⟩
 | cons t l ih =>
  rw[EZ,F2,Fg]
  have h1:=iJ v t
  have h2:ends v t<=2:=by unfold ends;split <;> split <;> lia
  lia
theorem uP (ns:List (List Int))(P:List Int)(v:Int):0<=tin ns P v/\tin ns P v<=2*(ns.length:Int):=by
 unfold tin
 have h:=Dg (l:=ns.filter (inn P)) v
 have:=G4 (inn P) ns
 lia
theorem hJ {i:Int}(h0 : -100000<i)(h1:i<100000):Sm i:=by
 unfold Sm
 exact EL (by omega:i.natAbs<100000) (by decide +kernel)
theorem wd1:Wd 1:=by unfold Wd;decide +kernel
structure Lyr (K:Ez)(H:Hp)(la:Addr)(tie:Bool)(m:Nat)(P:List Int)(s0 s1:Int):Prop where
 at':∃pl sh,H la=some (.tup [.str (wrd tie),.ref pl,.ref sh])/\H pl=some (.tup (P.map V.int))/\Two K H sh s0 s1
 rng:∀v∈P,0<=v/\v<m
 len:P.length<=200
 pos:0<s1
 sa:Sm s0
 sb:Sm s1
 low:jh s0 s1=true
theorem Lyr.same {K:Ez}{H H':Hp}{la:Addr}{tie:Bool}{m:Nat}{P:List Int}{s0 s1:Int}(h:Lyr K H la tie m P s0 s1)(s:az H H'):Lyr K H' la tie m P s0 s1:=by
 obtain ⟨pl,sh,e1,e2,e3⟩:=h.at'
 exact ⟨⟨pl,sh,s _ _ e1,s _ _ e2,e3.same s⟩,h.rng,h.len,h.pos,h.sa,h.sb,h.low⟩
theorem nM {tie:Bool}:decide (V.str (wrd tie)=V.str "ties")=tie:=by
 cases tie with
 | true=>exact decide_eq_true rfl
 | false=>exact decide_eq_false λz=>absurd (V.str.inj z) (by decide +kernel)
theorem tf {tie:Bool}:decide (V.str (wrd tie)=V.str "ring") = !tie:=by
 cases tie with
 | true=>exact decide_eq_false λz=>absurd (V.str.inj z) (by decide +kernel)
 | false=>exact decide_eq_true rfl
theorem f7 (x y:Int):rt x (y*1)=rt x y/\rb x (y*1)=rb x y:=by rw[JS];exact ⟨rfl,rfl⟩
@[irreducible] def iK (K:Ez):Sp:=λvs H Q _=>∃(r la:Addr) (m:Nat) (ts:LAz) (tie:Bool) (P:List Int) (s0 s1:Int),vs=[.ref r,.ref la]/\Wb H r m ts/\m<=40/\Lyr K H la tie m P s0 s1/\∀(U:Addr) (H':Hp),az H H'->H U=none->fh K m H' U (tkv tie (tin (ts.map (·.2)) P) s0 s1 P)->Q (.ref U) H'
theorem cJ {K:Ez}{vs:List V}{H:Hp}{Q:VK}{E:XK}:iK K vs H Q E↔∃(r la:Addr) (m:Nat) (ts:LAz) (tie:Bool) (P:List Int) (s0 s1:Int),vs=[.ref r,.ref la]/\Wb H r m ts/\m<=40/\Lyr K H la tie m P s0 s1/\∀(U:Addr) (H':Hp),az H H'->H U=none->fh K m H' U (tkv tie (tin (ts.map (·.2)) P) s0 s1 P)->Q (.ref U) H':=by
 delta iK
 exact Ge
section
theorem dH:aG ["web", "layer", "takes", "counts", "place"] ["web", "layer"] (au gN):=⟨rfl,rfl,rfl,by decide +kernel,rfl,by decide +kernel,by decide +kernel⟩
theorem qN {n0:Addr}(Z:Exs K mg n0)(F:Fun K "layer_takes" "layer_takes" gN f fd)(B:Blt mg)(cTiesAmong:Cal P w K mg base 1 "ties_among" ["web", "places"] j3)(cRatioTimes:Cal P w K mg base 3 "ratio_times" ["one", "other"] (zW K))(cRatioOfD:zo P w K mg base 2 "ratio_of" ["top", "bottom"] (l6 K) (.int 1)):aV P w K mg base CX0 4 f fd ["web", "layer"] (iK K):=by
 refine F.ok dH (λvs H Q E h =>?_) (λcdv A outer s H vs Q E hr h =>?_)
 ·obtain ⟨_,_,_,_,_,_,_,_,rfl,_⟩:=cJ.mp h
  rfl
 obtain ⟨r,la,m,ts,tie,P,s0,s1,rfl,W,m4,LY,q⟩:=cJ.mp h
 refine ⟨_,(ah (aB (i:=2) dH.nd rfl (Or.inl rfl) (aD tW (cy (aa (l7 (v :=.ref n0) rfl Z.m0 rfl) ag rfl)) (ax av (pv 0) ae (λ_ _=>rfl))))
  (ah (aB (i:=3) dH.nd rfl (Or.inl rfl) (ay cTiesAmong hr (by decide) rfl (aa (pv 0) (aa (ax av (pv 1) ae (λ_ _=>rfl)) ag rfl) rfl)))
  (ah (bB Fp rfl (eR (ax av (pv 1) ae (λ_ _=>rfl))) (aE (i:=4) dH.nd rfl (Or.inl rfl))
   (ah (ki (ax av (pv 1) ae (λ_ _=>rfl)) (pQ (pv 2) (pv 4) set_list) rfl rfl rfl)
   (aq (aU (aA bN (ax av (pv 1) ae (λ_ _=>rfl)) fL (aK _)) (aq (ki (ay cRatioTimes hr (by decide) rfl (aa (ax av (pv 1) ae (λ_ _=>rfl)) (aa (qo cRatioOfD hr (by decide) rfl (aa (aD gx (ax bz (pv 3) (pv 4) (λ_ _=>rfl)) ae) ag rfl)) ag rfl) rfl)) (pQ (pv 2) (pv 4) set_list) rfl rfl rfl)) aM))) (λ_=>rfl))
  (aq (aF (pv 2)))))),?_⟩
 obtain ⟨t,e1,e2⟩:=W.at'
 obtain ⟨pl,sh,ea,ep,es⟩:=LY.at'
 have tl:=Ff W.len (show 60<=200 by decide)
 refine ⟨(by show 1<=ES;decide),λo ho =>?_⟩
 have go:=ak ho (.lst [.ref n0])
 refine ⟨_,rfl,r,_,0,_,rfl,rfl,SqT.of (go _ _ e1),rfl,o,_,_,rfl,rfl,ai,by lia,by lia,?_,λU hU =>?_⟩
 ·exact aW (by show 1*(m:Int).toNat<=5000;lia)
 have hU0:=go.free hU
 have gU:=go.trans (ak hU (.lst (Fn (m:Int).toNat [V.ref n0]).flatten))
 have LU:fh K m (upd (upd H o (.lst [.ref n0])) U (.lst (Fn (m:Int).toNat [V.ref n0]).flatten)) U (tkv tie (tin (ts.map (·.2)) P) s0 s1 (P.take 0)):=by
  refine ⟨Fn m (n0,0,1),?_,Ho,λu hu =>?_,λj u hu =>?_⟩
  ·rw[ai]
   congr 2
   rw[show (m:Int).toNat=m by lia]
   exact Df n0 m
  ·rw[Ic hu];exact Z.l0 _
  ·have:=Ic (EH hu)
   rw[this];rfl
 generalize upd (upd H o (.lst [.ref n0])) U (.lst (Fn (m:Int).toNat [V.ref n0]).flatten)=H1 at gU LU
 refine ⟨_,rfl,_,rfl,la,_,1,_,rfl,rfl,SqT.of (gU _ _ ea),rfl,eG.mpr ⟨r,pl,m,ts,P,rfl,W.same gU,m4,gU _ _ ep,λC H2 s2 hC LC =>?_⟩⟩
 have g2:=gU.trans s2
 have L2:=LU.same s2
 have nCU:C≠U:=λz=>by
  obtain ⟨us,e,_⟩:=LU
  rw[z,e] at hC;cases hC
 let W0:Nat->St->Hp->Prop:=λi σ H'=>(∃c4,σ=[some (.ref r),some (.ref la),some (.ref U),some (.ref C),c4])/\az H H'/\fh K m H' U (tkv tie (tin (ts.map (·.2)) P) s0 s1 (P.take i))/\Lay m H' C (tin (ts.map (·.2)) P)
 refine ⟨_,rfl,la,_,1,_,rfl,rfl,SqT.of (g2 _ _ ea),rfl,pl,rfl,⟨_,SqT.of (g2 _ _ ep)⟩,jE (xs:=P.map V.int) W0 ⟨⟨_,rfl⟩,g2,L2,LC⟩ (λi σ H' _ h=>SqT.of (h.2.1 _ _ ep)) ?_ ?_⟩
 ·rintro i x σ H3 hx ⟨⟨c4,rfl⟩,s3,⟨us,eU,lU,tU,vU⟩,L,eL,lL,aL⟩
  obtain ⟨v,ev,rfl⟩:=eD hx
  obtain ⟨v0,v1⟩:=LY.rng v (EH ev)
  obtain ⟨n,rfl⟩:∃n:Nat,v=n:=⟨v.toNat,by lia⟩
  have hn:n<m:=by lia
  have mem:∀j:Nat,((j:Int)∈P.take (i+1))↔(j=n\/(j:Int)∈P.take i):=λj=>by
   rw[FW,ev,EU]
   constructor
   ·rintro (z | z)
    ·exact .inr z
    ·have:(j:Int)=n:=by simpa using z
     exact .inl (by lia)
   ·rintro (z | z)
    ·exact .inr (by rw[z];simp)
    ·exact .inl z
  have T4:=fh.put eU lU tU vU hn (es.same s3)
  have s4:az H (upd H3 U (.lst ((us.map λu=>V.ref u.1).set n (.ref sh)))):=az.cF s3 hU0 _
  have eL4:upd H3 U (.lst ((us.map λu=>V.ref u.1).set n (.ref sh))) C=some (.lst (L.map V.int)):=by rw[aH nCU];exact eL
  refine ⟨_,rfl,la,_,2,_,rfl,rfl,SqT.of (s3 _ _ ea),rfl,_,rfl,_,rfl,U,_,n,n,rfl,rfl,eU,(by rw[Ex];exact ixn (by lia)),?_⟩
  generalize upd H3 U (.lst ((us.map λu=>V.ref u.1).set n (.ref sh)))=H4 at T4 s4 eL4
  refine ⟨_,rfl,la,_,0,_,rfl,rfl,SqT.of (s4 _ _ ea),rfl,rfl,_,rfl,?_⟩
  rw[nM]
  cases tie with
  | false =>
   refine aQ ⟨⟨_,rfl⟩,s4,?_,L,eL4,lL,aL⟩
   obtain ⟨us',a1,a2,a3,a4⟩:=T4
   refine ⟨us',a1,a2,a3,λj u hu =>?_⟩
   rw[a4 j u hu]
   unfold tkv
   dsimp only
   by_cases c:j=n
   ·rw[if_pos c,if_pos ((mem j).mpr (.inl c))];rfl
   ·rw[if_neg c]
    by_cases d:(j:Int)∈P.take i
    ·rw[if_pos d,if_pos ((mem j).mpr (.inr d))]
    ·rw[if_neg d,if_neg λh=>((mem j).mp h).elim c d]
  | true =>
   have tb:=uP (ts.map (·.2)) P n
   rw[Ex] at tb
   have vC:L.getD n 0=tin (ts.map (·.2)) P n:=aL n hn
   refine aP ⟨_,rfl,la,_,2,_,rfl,rfl,SqT.of (s4 _ _ ea),rfl,_,rfl,_,rfl,C,_,n,_,rfl,rfl,SqL.of eL4,uO (by lia),_,_,rfl,rfl,bV.mpr ⟨L.getD n 0-1,1,rfl,by decide,wd1,λz H5 s5 tz =>?_⟩⟩
   rw[(kT _).1,(kT _).2,vC] at tz
   refine jY.mpr ⟨sh,z,s0,s1,tin (ts.map (·.2)) P n-1,1,rfl,(es.same s4).same s5,tz,⟨LY.pos,by decide⟩,⟨LY.sa,LY.sb,hJ (by lia) (by lia),hJ (by decide) (by decide)⟩,λy H6 s6 ty =>?_⟩
   rw[(f7 _ _).1,(f7 _ _).2] at ty
   have s56:=s5.trans s6
   obtain ⟨us',a1,a2,a3,a4⟩:=T4.same s56
   have T7:=fh.put a1 a2 a3 a4 hn ty
   refine ⟨_,rfl,_,rfl,U,_,n,n,rfl,rfl,a1,(by rw[Ex];exact ixn (by lia)),⟨_,rfl⟩,az.cF (s4.trans s56) hU0 _,?_,L,by rw[aH nCU];exact s56 _ _ eL4,lL,aL⟩
   obtain ⟨us',a1,a2,a3,a4⟩:=T7
   refine ⟨us',a1,a2,a3,λj u hu =>?_⟩
   rw[a4 j u hu]
   unfold tkv
   dsimp only
   by_cases c:j=n
   ·rw[if_pos c,if_pos ((mem j).mpr (.inl c)),c];rfl
   ·rw[if_neg c,if_neg c]
    by_cases d:(j:Int)∈P.take i
    ·rw[if_pos d,if_pos ((mem j).mpr (.inr d))]
    ·rw[if_neg d,if_neg λh=>((mem j).mp h).elim c d]
 ·rintro σ H3 ⟨⟨c4,rfl⟩,s3,T3,_⟩
  rw[Ex,FI] at T3
  exact ⟨_,rfl,q U _ s3 hU0 T3⟩
end
def bnv (tie:Bool)(ns:List (List Int))(P:List Int)(s0 s1:Int):Int×Int:=if tie=true then (rt (s0*(((ns.filter (inn P)).length:Int)-(P.length:Int)+1)) s1,rb (s0*(((ns.filter (inn P)).length:Int)-(P.length:Int)+1)) s1) else (s0,s1)
@[irreducible] def mq (K:Ez):Sp:=λvs H Q _=>∃(r la:Addr) (m:Nat) (ts:LAz) (tie:Bool) (P:List Int) (s0 s1:Int),vs=[.ref r,.ref la]/\Wb H r m ts/\Lyr K H la tie m P s0 s1/\∀(z:Addr) (H':Hp),az H H'->Two K H' z (bnv tie (ts.map (·.2)) P s0 s1).1 (bnv tie (ts.map (·.2)) P s0 s1).2->Q (.ref z) H'
theorem hW {K:Ez}{vs:List V}{H:Hp}{Q:VK}{E:XK}:mq K vs H Q E↔∃(r la:Addr) (m:Nat) (ts:LAz) (tie:Bool) (P:List Int) (s0 s1:Int),vs=[.ref r,.ref la]/\Wb H r m ts/\Lyr K H la tie m P s0 s1/\∀(z:Addr) (H':Hp),az H H'->Two K H' z (bnv tie (ts.map (·.2)) P s0 s1).1 (bnv tie (ts.map (·.2)) P s0 s1).2->Q (.ref z) H':=by
 delta mq
 exact Ge
section
theorem qO:aG ["web", "layer"] ["web", "layer"] (au gO):=⟨rfl,rfl,rfl,by decide +kernel,rfl,by decide +kernel,by decide +kernel⟩
theorem qP (F:Fun K "layer_bound" "layer_bound" gO f fd)(B:Blt mg)(cRatioTimes:Cal P w K mg base 3 "ratio_times" ["one", "other"] (zW K))(cRatioOfD:zo P w K mg base 2 "ratio_of" ["top", "bottom"] (l6 K) (.int 1))(cTiesWithin:Cal P w K mg base 1 "ties_within" ["web", "places"] jZ):aV P w K mg base CX0 4 f fd ["web", "layer"] (mq K):=by
 refine F.ok qO (λvs H Q E h =>?_) (λcdv A outer s H vs Q E hr h =>?_)
 ·obtain ⟨_,_,_,_,_,_,_,_,rfl,_⟩:=hW.mp h
  rfl
 obtain ⟨r,la,m,ts,tie,P,s0,s1,rfl,W,LY,q⟩:=hW.mp h
 refine ⟨_,(ah (aU (aA bN (ax av (pv 1) ae (λ_ _=>rfl)) fL (aK _)) (aq (aF (ax av (pv 1) ae (λ_ _=>rfl)))) aM)
  (aq (aF (ay cRatioTimes hr (by decide) rfl (aa (ax av (pv 1) ae (λ_ _=>rfl)) (aa (qo cRatioOfD hr (by decide) rfl (aa (aD bh (aD gx (ay cTiesWithin hr (by decide) rfl (aa (pv 0) (aa (ax av (pv 1) ae (λ_ _=>rfl)) ag rfl) rfl)) (aI aO rfl B.b_len bW (aa (ax av (pv 1) ae (λ_ _=>rfl)) ag rfl))) ae) ag rfl)) ag rfl) rfl))))),?_⟩
 obtain ⟨pl,sh,ea,ep,es⟩:=LY.at'
 have tl:=Ff W.len (show 60<=200 by decide)
 have pl2:=LY.len
 refine ⟨_,rfl,la,_,0,_,rfl,rfl,SqT.of ea,rfl,rfl,_,rfl,?_⟩
 rw[tf]
 cases tie with
 | false=>exact aP ⟨_,rfl,la,_,2,_,rfl,rfl,SqT.of ea,rfl,q sh _ (az.refl _) es⟩
 | true =>
  refine aQ ⟨_,rfl,la,_,2,_,rfl,rfl,SqT.of ea,rfl,_,rfl,_,rfl,la,_,1,_,rfl,rfl,SqT.of ea,rfl,f6.mpr ⟨r,pl,m,ts,P,rfl,W,ep,λH1 s1' =>?_⟩⟩
  have fl:((ts.map (·.2)).filter (inn P)).length<=ts.length:=by
   have:=G4 (inn P) (ts.map (·.2))
   rw[Ex] at this
   exact this
  refine ⟨_,rfl,la,_,1,_,rfl,rfl,SqT.of (s1' _ _ ea),rfl,pl,_,rfl,.inr (SqT.of (s1' _ _ ep)),_,_,rfl,rfl,_,_,rfl,rfl,?_⟩
  rw[Ex]
  refine bV.mpr ⟨_,1,rfl,by decide,wd1,λz H5 s5 tz =>?_⟩
  rw[(kT _).1,(kT _).2] at tz
  refine jY.mpr ⟨sh,z,s0,s1,_,1,rfl,(es.same s1').same s5,tz,⟨LY.pos,by decide⟩,⟨LY.sa,LY.sb,hJ (by lia) (by lia),hJ (by decide) (by decide)⟩,λy H6 s6 ty =>?_⟩
  rw[(f7 _ _).1,(f7 _ _).2] at ty
  exact q y _ (s1'.trans (s5.trans s6)) ty
end
def Dn (H:Hp)(d:Addr)(P:List Int)(f:Int->Int)(n:Nat):Prop:=∃kvs:List (Key×V),H d=some (.dK kvs)/\(∀v:Int,cB kvs (.inl v)=if v∈P then some (.int (f v)) else none)/\kvs.length<=n
theorem Dn.same {H H':Hp}{d:Addr}{P:List Int}{f:Int->Int}{n:Nat}(h:Dn H d P f n)(s:az H H'):Dn H' d P f n:=by
 obtain ⟨kvs,e,r⟩:=h
 exact ⟨kvs,s _ _ e,r⟩
theorem Dn.get {H:Hp}{d:Addr}{P:List Int}{f:Int->Int}{n:Nat}(h:Dn H d P f n)(v:Int):i5 H d (.int v) (if v∈P then some (.int (f v)) else none):=by
 obtain ⟨kvs,e,r,_⟩:=h
 rw[<- r v]
 exact i5.k (k :=.inl v) e
theorem Dn.put {H:Hp}{d:Addr}{P:List Int}{f:Int->Int}{n:Nat}{v x:Int}(h:Dn H d P f n)(hn:n<4000):∃H',oo H d (.int v) (.int x) H'/\(∀b,b≠d->H' b=H b)/\∀(P':List Int) (f':Int->Int),(∀u,u∈P'↔u=v\/u∈P)->(∀u,f' u=if u=v then x else f u)->Dn H' d P' f' (n+1):=by
 obtain ⟨kvs,e,r,l⟩:=h
 refine ⟨_,oo.k (k :=.inl v) (v :=.int x) e (dD (by lia)),λb hb=>aH hb,λP' f' hP hf=>⟨_,ai,λu =>?_,?_⟩⟩
 ·rw[rZ,r u,hf u]
  by_cases c:u=v
  ·subst c
   rw[if_pos rfl,if_pos ((hP u).mpr (.inl rfl)),if_pos rfl]
  ·rw[if_neg (λz=>c (MU z)),if_neg c]
   by_cases d:u∈P
   ·rw[if_pos d,if_pos ((hP u).mpr (.inr d))]
   ·rw[if_neg d,if_neg λz=>((hP u).mp z).elim c d]
 ·have:=eB kvs (.inl v) (.int x)
  lia
theorem az.off {H H1 H2:Hp}{d:Addr}(s:az H H1)(hd:H d=none)(o:∀b,b≠d->H2 b=H1 b):az H H2:=λb u e=>by
 rw[o b (aJ e hd)]
 exact s b u e
abbrev Ad:Sp:=λvs H Q _=>∃(r p:Addr) (m:Nat) (ts:LAz) (P:List Int),vs=[.ref r,.ref p]/\Wb H r m ts/\(H p=some (.lst (P.map V.int))\/H p=some (.tup (P.map V.int)))/\P.length<=200/\∀(d:Addr) (H':Hp),az H H'->H d=none->Dn H' d P (tin (ts.map (·.2)) P) 1000->Q (.ref d) H'
@[irreducible] def pF:Sp:=Ad
theorem fF {vs:List V}{H:Hp}{Q:VK}{E:XK}:pF vs H Q E↔Ad vs H Q E:=by
 delta pF
 exact Ge
section
theorem iL:aG ["web", "places", "found", "place", "tie"] ["web", "places"] (au jT):=⟨rfl,rfl,rfl,by decide +kernel,rfl,by decide +kernel,by decide +kernel⟩
theorem x9 (F:Fun K "_law_ties_in" "_law_ties_in" jT f fd)(B:Blt mg):aV P w K mg base CX0 1 f fd ["web", "places"] pF:=by
 refine F.ok iL (λvs H Q E h =>?_) (λcdv A outer s H vs Q E hr h =>?_)
 ·obtain ⟨_,_,_,_,_,rfl,_⟩:=fF.mp h
  rfl
 obtain ⟨r,p,m,ts,Pl,rfl,W,hp,lP,q⟩:=fF.mp h
 have hu:(ku CX0 P w K mg base ["web", "places", "found", "place", "tie"] "_law_ties_in" (au jT) f cdv A outer s H E).nox.A.units+1<cLine:=oJ hr
 refine ⟨_,(ah (aB (i:=2) iL.nd rfl (Or.inl rfl) sg)
  (ah (bB Fp rfl (y3 (pv 1)) (aE (i:=3) iL.nd rfl (Or.inl rfl))
   (aq (iA hu (pv 2) (pv 3) ae rfl)) (λ_=>rfl))
  (ah (bB Fp rfl (eR (ax av (pv 0) ae (λ_ _=>rfl))) (aE (i:=4) iL.nd rfl (Or.inl rfl))
   (aq (aU (PW.pt (cK (dJ (gG hu (ax av (pv 4) ae (λ_ _=>rfl)) (pv 2))) (bX (dJ (gG hu (ax av (pv 4) ae (λ_ _=>rfl)) (pv 2)))))) (ah (iA hu (pv 2) (ax av (pv 4) ae (λ_ _=>rfl)) (aD bh (eC hu (pv 2) (ax av (pv 4) ae (λ_ _=>rfl)) (λ_ _=>rfl)) ae) rfl)
    (aq (iA hu (pv 2) (ax av (pv 4) ae (λ_ _=>rfl)) (aD bh (eC hu (pv 2) (ax av (pv 4) ae (λ_ _=>rfl)) (λ_ _=>rfl)) ae) rfl))) aM)) (λ_=>rfl))
  (aq (aF (pv 2)))))),?_⟩
 obtain ⟨t,e1,e2⟩:=W.at'
 have tl:=Ff W.len (show 60<=200 by decide)
 have lum:(ts.map λu=>V.ref u.1).length=ts.length:=Ex _
 refine λd hd =>?_
 have s1:=ak hd (.dK [])
 have D1:Dn (upd H d (.dK [])) d (Pl.take 0) (λ_=>0) 0:=⟨[],ai,λv=>rfl,EI _⟩
 generalize upd H d (.dK [])=H1 at s1 D1
 refine ⟨_,rfl,p,rfl,vX (xs:=Pl.map V.int) (λi σ H'=>(∃c3,σ=[some (.ref r),some (.ref p),some (.ref d),c3,none])/\az H H'/\Dn H' d (Pl.take i) (λ_=>0) i) (hp.imp (s1 _ _) (s1 _ _)) ⟨⟨_,rfl⟩,s1,D1⟩ (λi σ H' h=>by rcases hp with z | z <;> rw[h.2.1 _ _ z,s1 _ _ z]) ?_ ?_⟩
 ·rintro i x σ H2 hx ⟨⟨c3,rfl⟩,s2,D2⟩
  obtain ⟨v,ev,rfl⟩:=eD hx
  have hi:=(EJ.mp ev).1
  obtain ⟨H3,dp,ho,hD⟩:=D2.put (v:=v) (x:=0) (by lia)
  refine ⟨_,rfl,_,rfl,d,H3,rfl,dp,⟨_,rfl⟩,az.off s2 hd ho,hD _ _ (λu =>?_) λu=>by split <;> rfl⟩
  rw[FW,ev,EU]
  constructor
  ·rintro (z | z)
   ·exact .inr z
   ·exact .inl (by simpa using z)
  ·rintro (z | z)
   ·exact .inr (by rw[z];simp)
   ·exact .inl z
 rintro σ H2 ⟨⟨c3,rfl⟩,s2,D2⟩
 rw[Ex,FI] at D2
 have D2:Dn H2 d Pl (tin ((ts.take 0).map (·.2)) Pl) (Pl.length+2*0):=D2
 let W0:Nat->St->Hp->Prop:=λi σ H'=>(∃c4,σ=[some (.ref r),some (.ref p),some (.ref d),c3,c4])/\az H H'/\Dn H' d Pl (tin ((ts.take i).map (·.2)) Pl) (Pl.length+2*i)
 refine ⟨_,rfl,r,_,1,_,rfl,rfl,SqT.of (s2 _ _ e1),rfl,t,rfl,⟨_,SqT.of (s2 _ _ e2)⟩,jE (xs:=ts.map λu =>.ref u.1) W0 ⟨⟨_,rfl⟩,s2,D2⟩ (λi σ H' _ h=>SqT.of (h.2.1 _ _ e2)) ?_ ?_⟩
 ·rintro i x σ H3 hx ⟨⟨c4,rfl⟩,s3,D3⟩
  obtain ⟨u,eu,rfl⟩:=dY hx
  have hi:=(EJ.mp eu).1
  have um:=EH eu
  obtain ⟨a,b,ab,a0,ab',bm⟩:=W.pr u um
  have eu3:=s3 _ _ (W.tup u um)
  have tk:∀v,tin ((ts.take (i+1)).map (·.2)) Pl v=tin ((ts.take i).map (·.2)) Pl v+if inn Pl u.2=true then ends v u.2 else 0:=λv=>by
   rw[<- sV,FW,eu,ER];rfl
  have iv:inn Pl u.2=(decide (a∈Pl) && decide (b∈Pl)):=by rw[ab];rfl
  have no:inn Pl u.2=false->Dn H3 d Pl (tin ((ts.take (i+1)).map (·.2)) Pl) (Pl.length+2*(i+1)):=λz=>by
   obtain ⟨kvs,e,r,l⟩:=D3
   refine ⟨kvs,e,λv =>?_,by lia⟩
   have zt:¬ inn Pl u.2=true:=by rw[z];exact EO
   rw[r v,tk,if_neg zt,Lf]
  rw[ab] at eu3
  refine ⟨_,rfl,u.1,_,0,_,rfl,rfl,SqT.of eu3,rfl,_,rfl,d,_,rfl,D3.get a,_,rfl,?_⟩
  by_cases ca:a∈Pl
  case neg =>
   rw[if_neg ca]
   exact aQ (aQ ⟨⟨_,rfl⟩,s3,no (by rw[iv,decide_eq_false ca,GW])⟩)
  rw[if_pos ca]
  refine aP ⟨_,rfl,u.1,_,1,_,rfl,rfl,SqT.of eu3,rfl,_,rfl,d,_,rfl,D3.get b,_,rfl,?_⟩
  by_cases cb:b∈Pl
  case neg =>
   rw[if_neg cb]
   exact aQ ⟨⟨_,rfl⟩,s3,no (by rw[iv,decide_eq_false cb,HS])⟩
  rw[if_pos cb]
  have ga:=D3.get a
  rw[if_pos ca] at ga
  obtain ⟨H4,dp4,ho4,hD4⟩:=D3.put (v:=a) (x:=tin ((ts.take i).map (·.2)) Pl a+1) (by lia)
  refine aP ⟨_,rfl,_,rfl,u.1,_,0,_,rfl,rfl,SqT.of eu3,rfl,d,_,rfl,ga,_,_,rfl,rfl,_,rfl,_,rfl,u.1,_,0,_,rfl,rfl,SqT.of eu3,rfl,d,H4,rfl,dp4,?_⟩
  have s4:=az.off s3 hd ho4
  have D4:=hD4 Pl (λv=>if v=a then tin ((ts.take i).map (·.2)) Pl a+1 else tin ((ts.take i).map (·.2)) Pl v) (λv=>⟨.inr,λz=>z.elim (λz=>z ▸ ca) id⟩) λv=>rfl
  have eu4:=s4 _ _ (W.tup u um)
  rw[ab] at eu4
  have gb:=D4.get b
  rw[if_pos cb] at gb
  obtain ⟨H5,dp5,ho5,hD5⟩:=D4.put (v:=b) (x:=(if b=a then tin ((ts.take i).map (·.2)) Pl a+1 else tin ((ts.take i).map (·.2)) Pl b)+1) (by lia)
  refine ⟨_,rfl,_,rfl,u.1,_,1,_,rfl,rfl,SqT.of eu4,rfl,d,_,rfl,gb,_,_,rfl,rfl,_,rfl,_,rfl,u.1,_,1,_,rfl,rfl,SqT.of eu4,rfl,d,H5,rfl,dp5,⟨_,rfl⟩,az.off s4 hd ho5,?_⟩
  have ivt:inn Pl u.2=true:=by rw[iv,decide_eq_true ca,decide_eq_true cb];rfl
  have D5:=hD5 Pl (tin ((ts.take (i+1)).map (·.2)) Pl) (λv=>⟨.inr,λz=>z.elim (λz=>z ▸ cb) id⟩) λv=>by
   rw[tk,if_pos ivt,ab]
   show _+((if a=v then (1:Int) else 0)+if b=v then (1:Int) else 0)=_
   by_cases c1:v=b <;> by_cases c2:v=a <;> by_cases c3:b=a
   all_goals first | lia | (simp only[c1,c2,c3,if_true,if_false,eq_comm];try simp;try lia)
  obtain ⟨kvs,x1,x2,x3⟩:=D5
  exact ⟨kvs,x1,x2,by lia⟩
 ·rintro σ H3 ⟨⟨c4,rfl⟩,s3,D3⟩
  rw[lum,FI] at D3
  obtain ⟨kvs,x1,x2,x3⟩:=D3
  exact ⟨_,rfl,q d _ s3 hd ⟨kvs,x1,x2,by lia⟩⟩
end
abbrev vY:Sp:=λvs H Q _=>∃(r p:Addr) (m:Nat) (ts:LAz) (P:List Int),vs=[.ref r,.ref p]/\Wb H r m ts/\H p=some (.tup (P.map V.int))/\P.length<=200/\∀(z:Addr) (B:List Int) (H':Hp),az H H'->H' z=some (.tup (B.map V.int))->(∀v∈B,v∈P)->B.length<=P.length->(∀v∈B,1<tin (ts.map (·.2)) B v)->(P.Pairwise (· < ·)->B.Pairwise (· < ·))->Q (.ref z) H'
@[irreducible] def qQ:Sp:=vY
theorem jk {vs:List V}{H:Hp}{Q:VK}{E:XK}:qQ vs H Q E↔vY vs H Q E:=by
 delta qQ
 exact Ge
section
theorem iM:aG ["web", "places", "kept", "many", "ties"] ["web", "places"] (au qt):=⟨rfl,rfl,rfl,by decide +kernel,rfl,by decide +kernel,by decide +kernel⟩
theorem jq:(["place", "ties"]:List Str).Nodup:=by decide +kernel
theorem BI (F:Fun K "_law_base" "_law_base" qt f fd)(B:Blt mg)(cLTiesIn:Cal P w K mg base 1 "_law_ties_in" ["web", "places"] pF):aV P w K mg base CX0 2 f fd ["web", "places"] qQ:=by
 refine F.ok iM (λvs H Q E h =>?_) (λcdv A outer s H vs Q E hr h =>?_)
 ·obtain ⟨_,_,_,_,_,rfl,_⟩:=jk.mp h
  rfl
 obtain ⟨r,p,m,ts,Pl,rfl,W,ep,lP,q⟩:=jk.mp h
 have hu:(ku CX0 P w K mg base ["web", "places", "kept", "many", "ties"] "_law_base" (au qt) f cdv A outer s H E).nox.A.units+1<cLine:=oJ hr
 refine ⟨_,(ah (aB (i:=2) iM.nd rfl (Or.inl rfl) (bq pW rfl B.b_list Bv (aa (pv 1) ag rfl)))
  (ah (aB (i:=3) iM.nd rfl (Or.inl rfl) (aD bh (aI aO rfl B.b_len bW (aa (pv 2) ag rfl)) ae))
  (ah (gr Fp (aA oD (aI aO rfl B.b_len bW (aa (pv 2) ag rfl)) (pv 3) (aK _))
   (ah (aB (i:=3) iM.nd rfl (Or.inl rfl) (aI aO rfl B.b_len bW (aa (pv 2) ag rfl)))
   (ah (aB (i:=4) iM.nd rfl (Or.inr rfl) (ay cLTiesIn hr (by decide) rfl (aa (pv 0) (aa (pv 2) ag rfl) rfl)))
   (aq (cE (i:=2) ["place", "ties"] [none,some 4] rfl iM.nd rfl rfl (bp (pv 2)) rfl (λ_ _ _ _ _=>(aE (i:=0) jq rfl (Or.inl rfl))) (λ_ _ _ _ _=>(dO (aA mF (eC hu (pv 1) (pv 0) (λ_ _=>rfl)) ae (aK _)))) (λ_ _ _ _ _=>(pv 0)))))))
  (aq (aF (bq aZ rfl B.b_tuple cR (aa (pv 2) ag rfl))))))),?_⟩
 refine ⟨_,rfl,p,_,rfl,.inr (SqT.of ep),λl hl =>?_⟩
 obtain ⟨H1,zQ9,s1,el⟩:=nwZ hl (.lst (Pl.map V.int))
 rw[zQ9]
 refine ⟨_,rfl,l,_,rfl,.inl (SqL.of el),_,_,rfl,rfl,?_⟩
 rw[Ex]
 refine gu (λσ H'=>∃(k:Addr) (B:List Int) (n:Nat) (c4:Option V),σ=[some (.ref r),some (.ref p),some (.ref k),some (.int (n:Nat)),c4]/\az H H'/\H' k=some (.lst (B.map V.int))/\B.Sublist Pl/\B.length<=Pl.length/\(B.length<n\/(B.length=n/\∀v∈B,1<tin (ts.map (·.2)) B v))) (λσ _=>match σ[3]? with | some (some (V.int a))=>a.toNat | _=>0) ⟨l,Pl,Pl.length+1,_,by rw[show ((Pl.length+1:Nat):Int)=(Pl.length:Int)+1 by lia];rfl,s1,el,List.Sublist.refl _,EI _,.inl (F8 _)⟩ ?_ ?_
 ·rintro σ H2 ⟨k,B,n,c4,rfl,s2,ek,sub,lB,or'⟩
  refine ⟨_,rfl,k,_,rfl,.inl (SqL.of ek),_,rfl,_,_,rfl,rfl,_,rfl,?_⟩
  rw[Ex]
  rcases or' with or' | ⟨en,al⟩
  case inr =>
   rw[decide_eq_false (by lia)]
   exact aQ ⟨_,rfl,k,_,rfl,.inl ⟨SqL.of ek,λz hz=>q z B _ (s2.trans (ak hz _)) ai (λv hv=>sub.subset hv) lB al (λh=>h.sublist sub)⟩⟩
  rw[decide_eq_true (by lia)]
  refine aP ⟨_,rfl,k,_,rfl,.inl (SqL.of ek),?_⟩
  rw[Ex]
  refine ⟨_,rfl,_,rfl,fF.mpr ⟨r,k,m,ts,B,rfl,W.same s2,.inl ek,by lia,λd H3 s3 hd D3 =>?_⟩⟩
  have s23:=s2.trans s3
  refine ⟨_,rfl,k,rfl,⟨_,SqL.of (s3 _ _ ek)⟩,bx (xs:=B.map V.int) (λi ys H'=>H'=H3/\ys=((B.take i).filter λv=>decide (1<tin (ts.map (·.2)) B v)).map V.int) ⟨rfl,rfl⟩ (by rw[Ex];exact aW (by lia)) (λi ys H' _ h=>by rw[h.1];exact SqL.of (s3 _ _ ek)) ?_ ?_⟩
  ·rintro i x ys H4 hx _ ⟨rfl,rfl⟩ R1 R0 r1 r0
   obtain ⟨v,ev,rfl⟩:=eD hx
   have vm:=EH ev
   have gv:=D3.get v
   rw[if_pos vm] at gv
   have tk:((B.take (i+1)).filter λv=>decide (1<tin (ts.map (·.2)) B v))=((B.take i).filter λv=>decide (1<tin (ts.map (·.2)) B v))++if 1<tin (ts.map (·.2)) B v then [v] else []:=by
    rw[FW,ev,Hu]
    congr 1
    by_cases c:1<tin (ts.map (·.2)) B v
    ·rw[if_pos c,HM,Fw (by exact decide_eq_true c)];rfl
    ·rw[if_neg c,HM,Fs (by exact λz=>c (of_decide_eq_true z))];rfl
   refine ⟨_,rfl,_,rfl,d,_,rfl,gv,_,_,rfl,rfl,_,rfl,?_⟩
   by_cases c:1<tin (ts.map (·.2)) B v
   ·rw[decide_eq_true c]
    refine aP ⟨_,rfl,r1 _ _ ⟨rfl,?_⟩⟩
    rw[tk,if_pos c,ER];rfl
   ·rw[decide_eq_false c]
    refine aQ (r0 _ ⟨rfl,?_⟩)
    rw[tk,if_neg c,FQ]
  ·rintro ys H4 _ ⟨rfl,rfl⟩ k2 hk2
   rw[Ex,FI]
   have lf:=G4 (λv=>decide (1<tin (ts.map (·.2)) B v)) B
   refine ⟨⟨k2,B.filter (λv=>decide (1<tin (ts.map (·.2)) B v)),B.length,_,rfl,s23.trans (ak hk2 _),ai,JY.trans sub,by lia,?_⟩,?_⟩
   ·by_cases c:(B.filter λv=>decide (1<tin (ts.map (·.2)) B v)).length<B.length
    ·exact .inl c
    ·have e:=LL.mpr (List.length_filter_eq_length_iff.mp (by lia:(B.filter λv=>decide (1<tin (ts.map (·.2)) B v)).length=B.length))
     rw[e]
     exact .inr ⟨rfl,λv hv=>of_decide_eq_true (LL.mp e v hv)⟩
   ·show ((B.length:Nat):Int).toNat<((n:Nat):Int).toNat
    lia
 ·rintro σ H Q Q' h ⟨v,e,p,xs,h1,h2,w,e',i,j,h3,h4,b,h5,y⟩
  exact ⟨v,e,p,xs,h1,h2,w,e',i,j,h3,h4,b,h5,h _ _ y⟩
end
theorem mv {α:Type}(f:α -> Int):∀(N:List α) (c:Nat),(∀(j:Nat) t,N[j]? = some t->j≠c->f t=0)->(N.map f).sum=((N[c]?).map f).getD 0
 | [],c,_=>rfl
 | t :: N,0,h=>by
  have:(N.map f).sum=((N[N.length]?).map f).getD 0:=mv f N N.length λj u hu _=>h (j+1) u hu (by lia)
  rw[EZ,F2,this,Gi (EI _)]
  show f t+0=f t
  lia
 | t :: N,c+1,h=>by
  have h1:=mv f N c λj u hu n=>h (j+1) u hu (by lia)
  have h0:f t=0:=h 0 t rfl (by lia)
  rw[EZ,F2,h1,h0,G5,Hy]
theorem Ae {α:Type}(f:α -> Int)(N:List α)(h:∀t∈N,f t=0):(N.map f).sum=0:=by
 rw[mv f N N.length λj t ht _=>h t (EH ht),Gi (EI _)];rfl
theorem ya {N:List (List Int)}{v cm:Int}(h2:1<(N.map (ends v)).sum)(hc:cm = -1\/∃(j:Nat) (t:List Int),cm=j/\N[j]? = some t/\ends v t=1):∃(j:Nat) (t:List Int),N[j]? = some t/\(j:Int)≠cm/\ends v t≠0:=by
 apply FZ
 intro n
 have al:∀(j:Nat) t,N[j]? = some t->(j:Int)≠cm->ends v t=0:=λj t ht hj=>FZ λz=>n ⟨j,t,ht,hj,z⟩
 rcases hc with hc | ⟨c,t,rfl,ht,h1⟩
 ·have:=Ae (ends v) N λt ht=>by
   obtain ⟨j,hj⟩:=Lz ht
   exact al j t hj (by lia)
  lia
 ·have:=mv (ends v) N c λj u hu hj=>al j u hu (by lia)
  rw[ht] at this
  have:(N.map (ends v)).sum=ends v t:=this
  lia
theorem v7 (W:List Int)(v:Int):atI ((W++[v]).map V.int) (-1)=some (.int v):=by
 have e:ixN ((W++[v]).map V.int).length (-1)=some W.length:=by
  rw[Ex,EE]
  unfold ixN
  rw[if_neg (by decide),if_pos (by show -((W.length+1:Nat):Int) <= -1;lia)]
  congr 1
  show (-1+((W.length+1:Nat):Int)).toNat=W.length
  lia
 unfold atI
 rw[e]
 show ((W++[v]).map V.int)[W.length]? = _
 rw[ET,E6 (EI _),G1]
 rfl
structure Cyc (ns:List (List Int))(Z:List Int):Prop where
 nd:Z.Nodup
 st:∀(i:Nat) x y,Z[i]? = some x->Z[i+1]? = some y->nrm x y∈ns
 cl:∀x y,Z[Z.length-1]? = some x->Z[0]? = some y->nrm x y∈ns
 two:∀x y,Z=[x,y]->2<=ns.count (nrm x y)
theorem Cyc.up {ns ms:List (List Int)}{Z:List Int}(h:Cyc ns Z)(c:∀x,ns.count x<=ms.count x):Cyc ms Z:=by
 have up:∀t,t∈ns->t∈ms:=λt ht=>Gs.mp (Ff (Gs.mpr ht) (c t))
 exact ⟨h.nd,λi x y e1 e2=>up _ (h.st i x y e1 e2),λx y e1 e2=>up _ (h.cl x y e1 e2),λx y e=>Ff (h.two x y e) (c _)⟩
theorem Cyc.ring {m:Nat}{ns:List (List Int)}{Z:List Int}(h:Cyc ns Z)(n:Z≠[])(rg:∀v∈Z,0<=v/\v<(m:Int)):Ring m ns Z:=by
 refine ⟨n,h.nd,rg,jW λi x y e1 e2 =>?_,h.two⟩
 have lz:0<Z.length:=Gv.mpr n
 obtain ⟨z0,t1,e0⟩:∃z0,Z.take 1=[z0]/\Z[0]? = some z0:=by
  cases Z with
  | nil=>exact absurd rfl n
  | cons a t=>exact ⟨a,rfl,rfl⟩
 rw[t1] at e1 e2
 have l2:=(EJ.mp e2).1
 rw[EE] at l2
 have l2:i+1<Z.length+1:=l2
 rw[E1 (by lia)] at e1
 by_cases c:i+1<Z.length
 ·rw[E1 c] at e2
  exact h.st i x y e1 e2
 ·have ei:i=Z.length-1:=by lia
  rw[E6 (by lia),show i+1-Z.length=0 by lia] at e2
  rw[ei] at e1
  have:y=z0:=(EX e2).symm
  rw[this]
  exact h.cl x z0 e1 e0
structure Trk (ns:List (List Int))(W:List Int)(v cm:Int):Prop where
 st:∀(i:Nat) x y,(W++[v])[i]? = some x->(W++[v])[i+1]? = some y->nrm x y∈ns
 cm:∀(u:Int),W[W.length-1]? = some u->∃j:Nat,cm=j/\ns[j]? = some (nrm u v)
theorem Trk.start (ns:List (List Int))(v cm:Int):Trk ns [] v cm:=⟨λi x y _ e=>(by cases i <;> cases e),λu e=>(by cases e)⟩
theorem Trk.step {ns:List (List Int)}{W:List Int}{v cm w:Int}{j:Nat}(h:Trk ns W v cm)(e:ns[j]? = some (nrm v w)):Trk ns (W++[v]) w j:=by
 refine ⟨λi x y e1 e2 =>?_,λu eu=>⟨j,rfl,?_⟩⟩
 ·have l2:=(EJ.mp e2).1
  rw[EE] at l2
  have l2:i+1<(W++[v]).length+1:=l2
  rw[E1 (by lia)] at e1
  by_cases c:i+1<(W++[v]).length
  ·rw[E1 c] at e2
   exact h.st i x y e1 e2
  ·have ei:i+1=(W++[v]).length:=by lia
   rw[E6 (by lia),ei,G1] at e2
   have lw:(W++[v]).length=W.length+1:=EE
   rw[show i=W.length by lia,E6 (EI _),G1] at e1
   have ex:x=v:=(EX e1).symm
   have ey:y=w:=(EX e2).symm
   rw[ex,ey]
   exact EH e
 ·rw[EE,show W.length+[v].length-1=W.length from rfl,E6 (EI _),G1] at eu
  have eu:u=v:=(EX eu).symm
  rw[eu];exact e
theorem pG {α:Type}[BEq α][LawfulBEq α]{l:List α}{x:α}:∀{i j:Nat},i<j->l[i]? = some x->l[j]? = some x->2<=l.count x:=by
 induction l with
 | nil=>intro i j _ e _;cases e
 | cons a l ih =>
  intro i j h e1 e2
  match i,j,h with
  | 0,j+1,_ =>
   have e1:a=x:=EX e1
   subst e1
   have:1<=l.count a:=Gs.mpr (EH (i:=j) e2)
   rw[List.count_cons_self];lia
  | i+1,j+1,h=>exact Ff (ih (by lia) e1 e2) (List.count_le_count_cons)
theorem Trk.cyc {ns:List (List Int)}{W:List Int}{v cm w:Int}{j:Nat}(h:Trk ns W v cm)(nd:(W++[v]).Nodup)(hw:w∈W++[v])(e:ns[j]? = some (nrm v w))(hj:(j:Int)≠cm):Cyc ns ((W++[v]).drop ((W++[v]).idxOf w)):=by
 have il:=G3.mpr hw
 have e0:(W++[v])[(W++[v]).idxOf w]? = some w:=by rw[EA il,Ji]
 have lw:(W++[v]).length=W.length+1:=EE
 have ev:(W++[v])[W.length]? = some v:=by rw[E6 (EI _),G1];rfl
 generalize (W++[v]).idxOf w=a at il e0
 refine ⟨nd.sublist (List.drop_sublist _ _),λi x y e1 e2 =>?_,λx y e1 e2 =>?_,λx y exy =>?_⟩
 ·rw[Ht] at e1 e2
  exact h.st (a+i) x y e1 (by rw[Nat.add_assoc];exact e2)
 ·rw[Ht,FD,show a+((W++[v]).length-a-1)=W.length by lia,ev] at e1
  rw[Ht,Nat.add_zero,e0] at e2
  rw[<- EX e1, <- EX e2]
  exact EH e
 ·have l2:(W++[v]).length-a=2:=by rw[<- FD,exy];rfl
  have ex:((W++[v]).drop a)[0]? = some x:=by rw[exy];rfl
  have ey:((W++[v]).drop a)[1]? = some y:=by rw[exy];rfl
  rw[Ht,Nat.add_zero,e0] at ex
  rw[Ht,show a+1=W.length by lia,ev] at ey
  rw[<- EX ex, <- EX ey]
  have eu:W[W.length-1]? = some w:=by
   rw[show a=W.length-1 by lia,E1 (by lia)] at e0
   exact e0
  obtain ⟨c,hc,ec⟩:=h.cm w eu
  rw[bK] at e
  have nc:c≠j:=λz=>hj (by rw[hc,z])
  rcases Nat.lt_or_gt_of_ne nc with z | z
  ·exact pG z ec e
  ·exact pG z e ec
abbrev v8:Sp:=λvs H Q _=>∃(p r b:Addr) (m:Nat) (ts:LAz) (B:List Int),vs=[.ref p,.ref r,.ref b]/\Pt 2 H p/\Wb H r m ts/\H b=some (.tup (B.map V.int))/\B≠[]/\B.length<=100/\(∀v∈B,1<tin (ts.map (·.2)) B v)/\∀(z:Addr) (Z:List Int) (H':Hp),Bu 2 p H H'->H' z=some (.tup (Z.map V.int))->Z≠[]->(∀v∈Z,v∈B)->Z.length<=110->Cyc (ts.map (·.2)) Z->Q (.ref z) H'
@[irreducible] def qR:Sp:=v8
theorem js {vs:List V}{H:Hp}{Q:VK}{E:XK}:qR vs H Q E↔v8 vs H Q E:=by
 delta qR
 exact Ge
section
theorem bR:aG ["pot", "web", "base", "have", "inner", "walk", "came", "turn", "ways", "place"] ["pot", "web", "base"] (au iB):=⟨rfl,rfl,rfl,by decide +kernel,rfl,by decide +kernel,by decide +kernel⟩
theorem iR:(["tie", "have"]:List Str).Nodup:=by decide +kernel
theorem dA:(["at", "came", "walk", "inner"]:List Str).Nodup:=by decide +kernel
theorem uQ (F:Fun K "_law_any_ring" "_law_any_ring" iB f fd)(B:Blt mg)(cLTiesIn:Cal P w K mg base 1 "_law_ties_in" ["web", "places"] pF)(cLTake:Cal P w K mg base 1 "_law_take" ["pot", "many"] fg):aV P w K mg base CX0 2 f fd ["pot", "web", "base"] qR:=by
 refine F.ok bR (λvs H Q E h =>?_) (λcdv A outer s H vs Q E hr h =>?_)
 ·obtain ⟨_,_,_,_,_,_,rfl,_⟩:=js.mp h
  rfl
 obtain ⟨p,r,b,m,ts,Bs,rfl,hp,W,eb,Bn,lB,B2,q⟩:=js.mp h
 have hu:(ku CX0 P w K mg base ["pot", "web", "base", "have", "inner", "walk", "came", "turn", "ways", "place"] "_law_any_ring" (au iB) f cdv A outer s H E).nox.A.units+1<cLine:=oJ hr
 refine ⟨_,(ah (aB (i:=3) bR.nd rfl (Or.inr rfl) (ay cLTiesIn hr (by decide) rfl (aa (pv 1) (aa (pv 2) ag rfl) rfl)))
  (ah (aB (i:=4) bR.nd rfl (Or.inr rfl) (bc ["tie", "have"] [none,some 3] rfl (eR (ax av (pv 1) ae (λ_ _=>rfl))) rfl (λ_ _ _ _ _=>(aE (i:=0) iR rfl (Or.inl rfl))) (λ_ _ _ _ _=>(dO (PW.pt (cK (dJ (gG hu (ax (dh (K:=K)) (pv 0) ae (λ_ _=>rfl)) (pv 1))) (bX (dJ (gG hu (ax (dh (K:=K)) (pv 0) ae (λ_ _=>rfl)) (pv 1)))))))) (λ_ _ _ _ _=>(pv 0))))
  (ah (aB (i:=5) bR.nd rfl (Or.inr rfl) (cy (aa (ax av (pv 2) (ay cLTake hr (by decide) rfl (aa (pv 0) (aa (aI aO rfl B.b_len bW (aa (pv 2) ag rfl)) ag rfl) rfl)) (λ_ _=>rfl)) ag rfl)))
  (ah (aB (i:=6) bR.nd rfl (Or.inr rfl) (rn mE ae))
  (ah (bB Fp rfl (aY rfl B.b_range (aa (aD bh (aI aO rfl B.b_len bW (aa (pv 2) ag rfl)) ae) ag rfl)) (aE (i:=7) bR.nd rfl (Or.inl rfl))
   (ah (cE (i:=8) ["at", "came", "walk", "inner"] [none,some 6,some 5,some 4] rfl bR.nd rfl rfl (aY rfl B.b_range (aa (aI aO rfl B.b_len bW (aa (pv 4) ag rfl)) ag rfl)) rfl (λ_ _ _ _ _=>(aE (i:=0) dA rfl (Or.inl rfl))) (λ_ _ _ _ _=>(dO (PW.pt (cK (aA lD (pv 0) (pv 1) (aK _)) (bX (aA (t6 (K:=K)) (ax (dP (K:=K)) (pv 2) (rn mE ae) (λ_ _=>rfl)) (ax (dP (K:=K)) (pv 3) (pv 0) (λ_ _=>rfl)) rfl)))))) (λ_ _ _ _ _=>(pv 0)))
   (ah (aB (i:=6) bR.nd rfl (Or.inr rfl) (ax bz (pv 8) (ay cLTake hr (by decide) rfl (aa (pv 0) (aa (aI aO rfl B.b_len bW (aa (pv 8) ag rfl)) ag rfl) rfl)) (λ_ _=>rfl)))
   (ah (aB (i:=9) bR.nd rfl (Or.inl rfl) (aD gx (aD bh (ax av (ax bz (pv 4) (pv 6) (λ_ _=>rfl)) ae (λ_ _=>rfl)) (ax av (ax bz (pv 4) (pv 6) (λ_ _=>rfl)) ae (λ_ _=>rfl))) (ax bz (pv 5) (rn mE ae) (λ_ _=>rfl))))
   (ah (aU (aA ij (pv 9) (pv 5) rfl) (aq (aF (bq aZ rfl B.b_tuple cR (aa (cc ig (pv 5) (cO (gA FY KC PySem.F.type_list_index xD (pv 5) (aa (pv 9) ag rfl))) cN) ag rfl)))) aM)
   (aq (da (gA FY Ga Gb cg (pv 5) (aa (pv 9) ag rfl)))))))) (λ_=>rfl))
  (aq (aF (bw ag)))))))),?_⟩
 obtain ⟨t,e1,e2⟩:=W.at'
 have tl:=Ff W.len (show 60<=200 by decide)
 have lum:(ts.map λu=>V.ref u.1).length=ts.length:=Ex _
 refine ⟨_,rfl,_,rfl,fF.mpr ⟨r,b,m,ts,Bs,rfl,W,.inr eb,by lia,λd H1 s1 hd D1 =>?_⟩⟩
 have W1:=W.same s1
 refine ⟨_,rfl,r,_,1,_,rfl,rfl,SqT.of (s1 _ _ e1),rfl,t,rfl,⟨_,SqT.of (s1 _ _ e2)⟩,dI (xs:=ts.map λu =>.ref u.1) (λi ys H'=>H'=H1/\ys=((ts.take i).filter λu=>inn Bs u.2).map λu=>V.ref u.1) ⟨rfl,rfl⟩ (by rw[lum];exact aW (by lia)) (λi ys H' _ h=>by rw[h.1];exact SqT.of (s1 _ _ e2)) ?_ ?_⟩
 ·rintro i x ys H2 hx _ ⟨rfl,rfl⟩ R1 R0 r1 r0
  obtain ⟨u,eu,rfl⟩:=dY hx
  have um:=EH eu
  obtain ⟨x,y,ab,_⟩:=W.pr u um
  have eu1:=W1.tup u um
  have tk:((ts.take (i+1)).filter λu=>inn Bs u.2)=((ts.take i).filter λu=>inn Bs u.2)++if inn Bs u.2=true then [u] else []:=by
   rw[FW,eu,Hu]
   congr 1
   by_cases c:inn Bs u.2=true
   ·rw[if_pos c,HM,Fw (by exact c)];rfl
   ·rw[if_neg c,HM,Fs (by exact c)];rfl
  have iv:inn Bs u.2=(decide (x∈Bs) && decide (y∈Bs)):=by rw[ab];rfl
  rw[ab] at eu1
  refine ⟨_,rfl,u.1,_,0,_,rfl,rfl,SqT.of eu1,rfl,_,rfl,d,_,rfl,D1.get x,_,rfl,?_⟩
  by_cases ca:x∈Bs
  case neg =>
   rw[if_neg ca]
   refine aQ (aQ (r0 _ ⟨rfl,?_⟩))
   rw[tk,if_neg (by rw[iv,decide_eq_false ca,GW];exact EO),FQ]
  rw[if_pos ca]
  refine aP ⟨_,rfl,u.1,_,1,_,rfl,rfl,SqT.of eu1,rfl,_,rfl,d,_,rfl,D1.get y,_,rfl,?_⟩
  by_cases cb:y∈Bs
  case neg =>
   rw[if_neg cb]
   refine aQ (r0 _ ⟨rfl,?_⟩)
   rw[tk,if_neg (by rw[iv,decide_eq_false cb,HS];exact EO),FQ]
  rw[if_pos cb]
  refine aP ⟨_,rfl,r1 _ _ ⟨rfl,?_⟩⟩
  rw[tk,if_pos (by rw[iv,decide_eq_true ca,decide_eq_true cb];rfl),ER];rfl
 rintro ys H2 _ ⟨rfl,rfl⟩ il hil
 rw[lum,FI]
 have NN:(ts.filter λu=>inn Bs u.2).map (·.2)=(ts.map (·.2)).filter (inn Bs):=by rw[Ld];rfl
 have lus:(ts.filter λu=>inn Bs u.2).length<=200:=Ff (G4 _ _) tl
 have tus0:Tus H2 (ts.filter λu=>inn Bs u.2):=λu hu=>W1.tup u (Fo.mp hu).1
 have pus:∀u∈ts.filter (λu=>inn Bs u.2),∃x y:Int,u.2=[x,y]/\x<=y/\x∈Bs/\y∈Bs:=λu hu=>by
  obtain ⟨um,iu⟩:=Fo.mp hu
  obtain ⟨x,y,e,_,xy,_⟩:=W.pr u um
  have iu:inn Bs u.2=true:=iu
  rw[e] at iu
  unfold inn at iu
  rw[Fh] at iu
  exact ⟨x,y,e,xy,of_decide_eq_true iu.1,of_decide_eq_true iu.2⟩
 have deg:∀v∈Bs,1<(((ts.filter λu=>inn Bs u.2).map (·.2)).map (ends v)).sum:=λv hv=>by rw[NN];exact B2 v hv
 have cle:∀x,((ts.filter λu=>inn Bs u.2).map (·.2)).count x<=(ts.map (·.2)).count x:=λx=>(JY.map _).count_le x
 generalize ts.filter (λu=>inn Bs u.2)=us at lus tus0 pus deg cle
 have g3:=ak hil (.lst (us.map λu=>V.ref u.1))
 have ei3:upd H2 il (.lst (us.map λu=>V.ref u.1)) il=some (.lst (us.map λu=>V.ref u.1)):=ai
 have b3:=(Bu.refl hp).same (s1.trans g3)
 have tu3:=tus0.same g3
 generalize upd H2 il (.lst (us.map λu=>V.ref u.1))=H3 at g3 ei3 b3 tu3
 have nil:il≠p:=λz=>by
  obtain ⟨xs,_,e⟩:=hp
  rw[z,s1 _ _ e] at hil;cases hil
 have Bl:0<Bs.length:=Gv.mpr Bn
 refine ⟨_,rfl,_,rfl,_,rfl,b,_,rfl,.inr (SqT.of (b3.tup hp eb)),aN.mpr ⟨p,(Bs.length:Int),by rw[Ex];rfl,b3.pot,by lia,by lia,λd1 H4 d10 d11 b4 =>?_⟩⟩
 obtain ⟨v0,vm0,hat0⟩:=zr (xs:=Bs) d10 d11
 have b34:=b3.trans b4
 refine ⟨b,_,d1,_,rfl,rfl,SqT.of (b34.tup hp eb),hat0,(by show 1<=ES;decide),λwa hwa =>?_⟩
 have nwp:=kZ b34.pot hwa
 have hwa0:=zZ b34 hwa nwp
 have ei4:=b4.st _ _ nil ei3
 have niw:il≠wa:=λz=>by rw[<- z,ei4] at hwa;cases hwa
 have g5:=ak hwa (.lst [.int v0])
 have b5:=b34.same g5
 have ei5:=g5 _ _ ei4
 have tu5:=(tu3.bu b4 b3.pot).same g5
 have ew5:upd H4 wa (.lst [.int v0]) wa=some (.lst (([]++[v0]).map V.int)):=ai
 generalize upd H4 wa (.lst [.int v0])=H5 at g5 b5 ei5 tu5 ew5
 let W0:Nat->St->Hp->Prop:=λi σ H'=>∃(W':List Int) (v cm:Int),(∃c7 c8 c9,σ=[some (.ref p),some (.ref r),some (.ref b),some (.ref d),some (.ref il),some (.ref wa),some (.int cm),c7,c8,c9])/\Bu 2 p H H'/\H' il=some (.lst (us.map λu=>V.ref u.1))/\Tus H' us/\H' wa=some (.lst ((W'++[v]).map V.int))/\W'.length=i/\(W'++[v]).Nodup/\(∀u∈W'++[v],u∈Bs)/\(cm = -1\/∃(j:Nat) (t:List Int),cm=j/\(us.map (·.2))[j]? = some t/\ends v t=1)/\Trk (us.map (·.2)) W' v cm
 refine ⟨_,rfl,_,rfl,b,_,rfl,.inr (SqT.of (b5.tup hp eb)),_,_,rfl,rfl,((Bs.length:Int)+1),(by rw[Ex]),by lia,by lia,cV W0 ⟨[],v0, -1,⟨_,_,_,rfl⟩,b5,ei5,tu5,ew5,rfl,by simp,λu hu=>by rw[ED.mp hu];exact vm0,.inl rfl,Trk.start _ _ _⟩ ?_ ?_⟩
 case refine_2 =>
  rintro σ H6 ⟨W',v,cm,_,_,_,_,_,lW,nd,sub,_,_⟩
  have:=GQ nd (l₂:=Bs) λu hu=>sub u hu
  rw[EE] at this
  have:W'.length+1<=Bs.length:=this
  lia
 rintro i σ H6 hi ⟨W',v,cm,⟨c7,c8,c9,rfl⟩,b6,ei6,tu6,ew6,lW,nd,sub,hcm,TR⟩
 have lWB:W'.length+1<=Bs.length:=by
  have:=GQ nd (l₂:=Bs) λu hu=>sub u hu
  rw[EE] at this
  exact this
 have vB:v∈Bs:=sub v (E5 _ E7)
 have liu:(us.map λu=>V.ref u.1).length=us.length:=Ex _
 let W1:Nat->List V->Hp->Prop:=λk ys H'=>H'=H6/\ys=(((FP k).filter λj:Nat=>decide ((j:Int)≠cm/\v∈(us.getD j (0,[])).2)).map λj:Nat=>(j:Int)).map V.int
 refine ⟨_,rfl,il,_,rfl,.inl (SqL.of ei6),(us.length:Int),by rw[liu],by lia,by lia,bE W1 ⟨rfl,rfl⟩ (aW (by lia)) ?_ ?_⟩
 ·rintro k ys H7 hk _ ⟨rfl,rfl⟩ R1 R0 r1 r0
  have hk':k<us.length:=by lia
  rw[G5 (k:Int)]
  have eu:us[k]? = some us[k]:=EA hk'
  have um:us[k]∈us:=GJ hk'
  have gd:us.getD k (0,[])=us[k]:=by rw[EF,eu];rfl
  have tk:(((FP (k+1)).filter λj:Nat=>decide ((j:Int)≠cm/\v∈(us.getD j (0,[])).2)).map λj:Nat=>(j:Int))=(((FP k).filter λj:Nat=>decide ((j:Int)≠cm/\v∈(us.getD j (0,[])).2)).map λj:Nat=>(j:Int))++if (k:Int)≠cm/\v∈us[k].2 then [(k:Int)] else []:=by
   rw[M5,Hu,ER]
   congr 1
   by_cases c:(k:Int)≠cm/\v∈us[k].2
   ·rw[if_pos c,Fw (by rw[gd];exact decide_eq_true c)];rfl
   ·rw[if_neg c,Fs (by rw[gd];exact λz=>c (of_decide_eq_true z))];rfl
  have no:¬ ((k:Int)≠cm/\v∈us[k].2)->R0 H7:=λc=>r0 _ ⟨rfl,by rw[tk,if_neg c,FQ]⟩
  refine ⟨_,rfl,_,rfl,rfl,_,rfl,?_⟩
  by_cases c:(k:Int)=cm
  ·rw[decide_eq_true (by rw[c])]
   exact aQ (aQ (no λz=>z.1 c))
  rw[decide_eq_false (λz=>c (V.int.inj z))]
  refine aP ⟨_,rfl,1,rfl,wa,_,_,_,rfl,rfl,SqL.of ew6,v7 W' v,_,rfl,_,rfl,il,_,(k:Int),.ref us[k].1,rfl,rfl,SqL.of ei6,cC (by rw[ET,eu];rfl),us[k].1,_,rfl,.inr (SqT.of (tu6 _ um)),rfl,bM _,_,rfl,?_⟩
  show if inV (.int v) (us[k].2.map V.int)=true then _ else _
  rw[sq]
  by_cases cv:v∈us[k].2
  ·rw[decide_eq_true cv]
   exact aP ⟨_,rfl,r1 _ _ ⟨rfl,by rw[tk,if_pos ⟨c,cv⟩,ER];rfl⟩⟩
  ·rw[decide_eq_false cv]
   exact aQ (no λz=>cv z.2)
 rintro ys H7 _ ⟨rfl,rfl⟩ yl hyl
 rw[show ((us.length:Nat):Int).toNat=us.length by lia]
 have ex:∃j:Nat,j∈(FP us.length).filter λj:Nat=>decide ((j:Int)≠cm/\v∈(us.getD j (0,[])).2):=by
  obtain ⟨j,t,ht,hj,et⟩:=ya (deg v vB) hcm
  rw[ET] at ht
  obtain ⟨u,eu,rfl⟩:=Hf.mp ht
  refine ⟨j,Fo.mpr ⟨FJ.mpr (EJ.mp eu).1,decide_eq_true ⟨hj,?_⟩⟩⟩
  rw[EF,eu]
  show v∈u.2
  obtain ⟨x,y,e,_⟩:=pus u (EH eu)
  rw[e] at et ⊢
  apply FZ
  intro n
  apply et
  show (if x=v then (1:Int) else 0)+(if y=v then (1:Int) else 0)=0
  rw[if_neg (λz=>n (by rw[z];simp)),if_neg (λz=>n (by rw[z];simp))]
  rfl
 have al:∀j:Nat,j∈(FP us.length).filter (λj:Nat=>decide ((j:Int)≠cm/\v∈(us.getD j (0,[])).2))->j<us.length/\(j:Int)≠cm/\v∈(us.getD j (0,[])).2:=λj hj=>by
  obtain ⟨a,c⟩:=Fo.mp hj
  exact ⟨FJ.mp a,of_decide_eq_true c⟩
 have lY:((FP us.length).filter λj:Nat=>decide ((j:Int)≠cm/\v∈(us.getD j (0,[])).2)).length<=200:=by
  have:=G4 (λj:Nat=>decide ((j:Int)≠cm/\v∈(us.getD j (0,[])).2)) (FP us.length)
  rw[Ib] at this
  lia
 generalize (FP us.length).filter (λj:Nat=>decide ((j:Int)≠cm/\v∈(us.getD j (0,[])).2))=Y at ex al lY
 have Yl:0<Y.length:=by
  obtain ⟨j,hj⟩:=ex
  exact K2 hj
 have g8:=ak hyl (.lst ((Y.map λj:Nat=>(j:Int)).map V.int))
 have ey8:upd H7 yl (.lst ((Y.map λj:Nat=>(j:Int)).map V.int)) yl=some (.lst ((Y.map λj:Nat=>(j:Int)).map V.int)):=ai
 have b8:=b6.same g8
 have nyp:=kZ b6.pot hyl
 generalize upd H7 yl (.lst ((Y.map λj:Nat=>(j:Int)).map V.int))=H8 at g8 ey8 b8
 refine ⟨_,rfl,_,rfl,_,rfl,yl,_,rfl,.inl (SqL.of ey8),aN.mpr ⟨p,(Y.length:Int),by rw[Ex,Ex];rfl,b8.pot,by lia,by lia,λd2 H9 d20 d21 b9 =>?_⟩⟩
 obtain ⟨y,ym,haty⟩:=zr (xs:=Y.map λj:Nat=>(j:Int)) d20 (by rw[Ex];exact d21)
 obtain ⟨j,jm,rfl⟩:=E9.mp ym
 obtain ⟨jl,jcm,jv⟩:=al j jm
 have b89:=b8.trans b9
 refine ⟨yl,_,d2,_,rfl,rfl,SqL.of (b9.st _ _ nyp ey8),haty,?_⟩
 have eu:us[j]? = some us[j]:=EA jl
 have um:us[j]∈us:=GJ jl
 have gd:us.getD j (0,[])=us[j]:=by rw[EF,eu];rfl
 rw[gd] at jv
 have ei9:=b9.st _ _ nil (g8 _ _ ei6)
 have ew9:=b9.st _ _ nwp (g8 _ _ ew6)
 have tu9:=(tu6.same g8).bu b9 b8.pot
 obtain ⟨x,z,e,xz,xB,zB⟩:=pus _ um
 have eu9:=tu9 _ um
 have eN:(us.map (·.2))[j]? = some [x,z]:=by rw[ET,eu];exact congrArg some e
 rw[e] at eu9 jv
 have hatj:atI (us.map λu=>V.ref u.1) (j:Int)=some (.ref us[j].1):=cC (by rw[ET,eu];rfl)
 generalize us[j].1=ja at eu9 hatj
 refine ⟨_,rfl,_,rfl,il,_,(j:Int),_,rfl,rfl,SqL.of ei9,hatj,ja,_,0,_,rfl,rfl,SqT.of eu9,rfl,_,rfl,_,rfl,il,_,(j:Int),_,rfl,rfl,SqL.of ei9,hatj,ja,_,1,_,rfl,rfl,SqT.of eu9,rfl,_,_,rfl,rfl,_,rfl,1,rfl,wa,_,_,_,rfl,rfl,SqL.of ew9,v7 W' v,_,_,rfl,rfl,?_⟩
 have jv':v=x\/v=z:=by simpa using jv
 have eJ:(us.map (·.2))[j]? = some (nrm v (x+z-v)):=by
  rw[eN]
  rcases jv' with h | h
  ·rw[h,show x+z-x=z by lia,bL xz]
  ·rw[h,show x+z-z=x by lia,bK,bL xz]
 have pB:x+z-v∈Bs:=by
  rcases jv' with h | h
  ·rw[h,show x+z-x=z by lia];exact zB
  ·rw[h,show x+z-z=x by lia];exact xB
 have lwm:((W'++[v]).map V.int).length=W'.length+1:=by rw[Ex,EE];rfl
 refine ⟨_,rfl,_,rfl,wa,_,rfl,.inl (SqL.of ew9),rfl,bM (W'++[v]),_,rfl,?_⟩
 show if inV (.int (x+z-v)) ((W'++[v]).map V.int)=true then _ else _
 rw[sq]
 by_cases inW:x+z-v∈W'++[v]
 ·rw[decide_eq_true inW]
  refine aP ⟨_,rfl,_,rfl,.inl ⟨rfl,_,SqL.of ew9⟩,_,rfl,wa,W'++[v],_,rfl,rfl,ew9,inW,by rw[EE];show _+1<=_;lia,_,rfl,wa,_,rfl,SqL.of ew9,λc1 hc1 =>?_⟩
  have ix:=G3.mpr inW
  rw[qB _ (by rw[Ex];exact Gz ix), <- Ik]
  refine ⟨c1,_,rfl,.inl ⟨SqL.of ai,λc2 hc2=>q c2 _ _ ((b89.same (ak hc1 _)).same (ak hc2 _)) ai (λzz =>?_) (λu hu=>sub u (Hx hu)) ?_ ((TR.cyc nd inW eJ jcm).up cle)⟩⟩
  ·have:=congrArg List.length zz
   rw[FD] at this
   have:(W'++[v]).length-(W'++[v]).idxOf (x+z-v)=0:=this
   lia
  ·rw[FD,EE]
   show W'.length+1-_<=110
   lia
 ·rw[decide_eq_false inW]
  have nv:x+z-v≠v:=λz'=>inW (by rw[z'];simp)
  refine aQ ⟨_,rfl,.inl ⟨rfl,_,SqL.of ew9⟩,_,rfl,wa,_,_,rfl,rfl,ew9,dD (by rw[lwm];lia),W'++[v],x+z-v,(j:Int),⟨_,_,_,rfl⟩,b89.cF hwa0 nwp _,by rw[aH niw];exact ei9,λu hu=>by rw[aH (lC (tu9 u hu) ew9 nofun)];exact tu9 u hu,by rw[ai,ER (l₁:=W'++[v])];rfl,by rw[EE,lW];rfl,?_,λu hu =>?_,.inr ⟨j,_,rfl,eN,?_⟩,TR.step eJ⟩
  ·refine Jq.mpr ⟨nd,by simp,λa ha b hb e =>?_⟩
   rw[ED.mp hb] at e
   exact inW (e ▸ ha)
  ·rcases EU.mp hu with h | h
   ·exact sub u h
   ·rw[ED.mp h];exact pB
  ·show (if x=x+z-v then (1:Int) else 0)+(if z=x+z-v then (1:Int) else 0)=1
   rcases jv' with h | h
   ·rw[if_neg (by lia),if_pos (by lia)];rfl
   ·rw[if_pos (by lia),if_neg (by lia)];rfl
end
theorem v9 {ns:List Int}{k:Nat}{v:Int}(h:v∈rot ns k):v∈ns:=(EU.mp h).elim Hx Gp
theorem wc (ns:List Int)(k:Nat):(rot ns k).length=ns.length:=by
 unfold rot
 rw[EE,FD,Fz];lia
theorem Af {ns:List Int}{v:Int}(h:v∈turn ns):v∈ns:=(EU.mp h).elim Gp λz=>Hx (List.mem_reverse.mp z)
theorem Ag (ns:List Int):(turn ns).length=ns.length:=by
 unfold turn
 rw[EE,Fz,Im,FD];lia
theorem j4 {ns:List Int}{M v:Int}(h:v∈frm ns M):v∈ns:=by
 unfold frm fV at h
 split at h
 ·exact v9 (Af h)
 ·exact v9 h
theorem cu (ns:List Int)(M:Int):(frm ns M).length=ns.length:=by
 unfold frm fV
 split
 ·rw[Ag,wc]
 ·rw[wc]
theorem Ah {ns:List Int}{M:Int}(h:ns≠[]):frm ns M≠[]:=λz=>h (List.eq_nil_of_length_eq_zero (by rw[<- cu ns M,z];rfl))
theorem qS {P:Int->Int->Prop}:∀(l:List Int) (a:Int) (r:List Int),chn P (l++a :: r)↔chn P (l++[a])/\chn P (a :: r)
 | [],a,r=>⟨λh=>⟨trivial,h⟩,λh=>h.2⟩
 | [x],a,r=>⟨λh=>⟨⟨h.1,trivial⟩,h.2⟩,λh=>⟨h.1.1,h.2⟩⟩
 | x :: y :: l,a,r=>by
  have ih:=qS (P:=P) (y :: l) a r
  exact ⟨λh=>⟨⟨h.1,(ih.mp h.2).1⟩,(ih.mp h.2).2⟩,λh=>⟨h.1.1,ih.mpr ⟨h.1.2,h.2⟩⟩⟩
theorem mw {P:Int->Int->Prop}:∀{Z:List Int},chn P Z->∀(i:Nat) x y,Z[i]? = some x->Z[i+1]? = some y->P x y
 | [],_,_,_,_,e,_=>by simp at e
 | [_],_,i,_,_,_,e=>by simp at e
 | a :: b :: t,h,0,x,y,e1,e2=>by cases e1;cases e2;exact h.1
 | a :: b :: t,h,i+1,x,y,e1,e2=>mw h.2 i x y e1 e2
theorem we {P:Int->Int->Prop}(sy:∀a b,P a b->P b a):∀{Z:List Int},chn P Z->chn P Z.reverse
 | [],_=>trivial
 | [_],_=>trivial
 | a :: b :: t,h=>by
  rw[II,II,HB]
  show chn P (t.reverse++b :: [a])
  rw[qS]
  have:=we sy h.2
  rw[II] at this
  exact ⟨this,sy _ _ h.1,trivial⟩
theorem Ring.rot {m:Nat}{ns:List (List Int)}{u v:List Int}(h:Ring m ns (u++v)):Ring m ns (v++u):=by
 cases u with
 | nil=>rw[FQ];exact h
 | cons a u =>
  cases v with
  | nil=>rw[FQ] at h;exact h
  | cons b v =>
   have pm:((b :: v)++(a :: u)).Perm ((a :: u)++(b :: v)):=Lg
   refine ⟨by simp,pm.nodup_iff.mpr h.nd,λx hx=>h.rng x (pm.mem_iff.mp hx),?_,λx y e =>?_⟩
   ·have c:=h.ch
    rw[show (a :: u)++(b :: v)++((a :: u)++(b :: v)).take 1=(a :: u)++b :: (v++[a]) by simp] at c
    rw[show (b :: v)++(a :: u)++((b :: v)++(a :: u)).take 1=(b :: v)++a :: (u++[b]) by simp]
    rw[qS] at c ⊢
    exact ⟨c.2,c.1⟩
   ·have:v=[]:=by
     cases v with
     | nil=>rfl
     | cons c v=>simp at e
    subst this
    have:u=[]:=by
     cases u with
     | nil=>rfl
     | cons c u=>simp at e
    subst this
    simp at e
    obtain ⟨rfl,rfl⟩:=e
    rw[bK]
    exact h.two _ _ rfl
theorem Ring.turn {m:Nat}{ns:List (List Int)}{a:Int}{t:List Int}(h:Ring m ns (a :: t)):Ring m ns (a :: t.reverse):=by
 have pm:(a :: t.reverse).Perm (a :: t):=(Mr t).cons a
 refine ⟨by simp,pm.nodup_iff.mpr h.nd,λx hx=>h.rng x (pm.mem_iff.mp hx),?_,λx y e =>?_⟩
 ·have c:=we (Td.symm (ns:=ns)) h.ch
  rw[show ((a :: t)++(a :: t).take 1).reverse=(a :: t.reverse)++(a :: t.reverse).take 1 by simp] at c
  exact c
 ·injection e with e1 e2
  have:t=[y]:=by
   have:=congrArg List.reverse e2
   rwa [LA] at this
  subst this;subst e1
  exact h.two _ _ rfl
structure Dh (Z:List Int):Prop where
 ne:Z≠[]
 nd:Z.Nodup
 mn:∀b∈Z,Z.getD 0 0<=b
 lx:HT.lexLt (turn Z) Z=false
theorem k8 (a:Int)(t:List Int):turn (a :: t)=a :: t.reverse:=rfl
theorem Ai {Z:List Int}{k:Nat}{c:Int}(e:Z[k]? = some c):rot Z k=c :: (Z.drop (k+1)++Z.take k):=by
 obtain ⟨h,e⟩:=EJ.mp e
 unfold rot
 rw[List.drop_eq_getElem_cons h,e];rfl
theorem Aj {Z:List Int}{M:Int}(h:M∈Z):Z[Z.idxOf M]? = some M:=by
 rw[EA (G3.mpr h),Ji]
theorem k9 {Z:List Int}{M:Int}(h:M∈Z):∃t,rot Z (Z.idxOf M)=M :: t/\((frm Z M=M :: t/\HT.lexLt (M :: t.reverse) (M :: t)=false)\/(frm Z M=M :: t.reverse/\HT.lexLt (M :: t.reverse) (M :: t)=true)):=by
 refine ⟨_,Ai (Aj h),?_⟩
 unfold frm
 rw[Ai (Aj h),k8]
 generalize Z.drop (Z.idxOf M+1)++Z.take (Z.idxOf M)=t
 unfold fV
 cases c:HT.lexLt (M :: t.reverse) (M :: t) with
 | true=>exact .inr ⟨if_pos rfl,rfl⟩
 | false=>exact .inl ⟨if_neg EO,rfl⟩
theorem tj (Z:List Int)(k:Nat):(rot Z k).Perm Z:=by
 unfold rot
 exact Lg.trans (by rw[JB])
theorem Ak {Z:List Int}{M:Int}(h:M∈Z):(frm Z M).Perm Z:=by
 obtain ⟨t,e,⟨z,_⟩ | ⟨z,_⟩⟩:=k9 h
 ·rw[z, <- e];exact tj _ _
 ·rw[z];exact ((Mr t).cons M).trans (e ▸ tj Z _)
theorem Am {a b:List Int}(h:HT.lexLt a b=true):HT.lexLt b a=false:=by
 cases c:HT.lexLt b a with
 | false=>rfl
 | true=>have:=Srt.lex_trans _ _ _ h c;rw[Srt.lex_irrefl] at this;cases this
theorem An {Z:List Int}{M:Int}(nd:Z.Nodup)(h:M∈Z)(mn:∀b∈Z,M<=b):Dh (frm Z M):=by
 have pm:=Ak h
 obtain ⟨t,e,⟨z,c⟩ | ⟨z,c⟩⟩:=k9 h
 ·refine ⟨by rw[z];simp,pm.nodup_iff.mpr nd,λb hb =>?_,?_⟩
  ·rw[z] at hb ⊢;exact mn b (pm.mem_iff.mp (z ▸ hb))
  ·rw[z,k8];exact c
 ·refine ⟨by rw[z];simp,pm.nodup_iff.mpr nd,λb hb =>?_,?_⟩
  ·rw[z] at hb ⊢;exact mn b (pm.mem_iff.mp (z ▸ hb))
  ·rw[z,k8,LA];exact Am c
theorem Ring.frm {m:Nat}{ns:List (List Int)}{Z:List Int}{M:Int}(h:Ring m ns Z)(hM:M∈Z):Ring m ns (frm Z M):=by
 have hr:Ring m ns (_root_.K40.rot Z (Z.idxOf M)):=by
  show Ring m ns (Z.drop (Z.idxOf M)++Z.take (Z.idxOf M))
  exact Ring.rot (by rw[JB];exact h)
 obtain ⟨t,e,⟨z,_⟩ | ⟨z,_⟩⟩:=k9 hM
 ·rw[z, <- e];exact hr
 ·rw[e] at hr;rw[z];exact hr.turn
theorem Ring.next {m:Nat}{ns:List (List Int)}{Z:List Int}(h:Ring m ns Z){k:Nat}{y:Int}(e:Z[k]? = some y):∃x,atI (Z.map V.int) ((k:Int)-1)=some (.int x)/\Td ns x y:=by
 have hk:=(EJ.mp e).1
 have c:=mw h.ch
 cases k with
 | zero =>
  have t1:Z.take 1=[y]:=by
   cases Z with
   | nil=>cases e
   | cons a t=>cases e;rfl
  have el:Z[Z.length-1]? = some (Z[Z.length-1]'(by omega)):=EA (by omega)
  refine ⟨Z[Z.length-1]'(by omega),?_,c (Z.length-1) _ _ (by rw[E1 (by omega)];exact el) (by rw[t1,E6 (by omega),show Z.length-1+1-Z.length=0 by omega];rfl)⟩
  unfold atI ixN
  rw[Ex]
  simp
  rw[if_pos (by omega)]
  simp only[MS]
  rw[show (-1+(Z.length:Int)).toNat=Z.length-1 by omega,el];rfl
 | succ k =>
  have el:Z[k]? = some (Z[k]'(by omega)):=EA (by omega)
  refine ⟨Z[k]'(by omega),?_,c k _ _ (by rw[E1 (by omega)];exact el) (by rw[E1 (by omega)];exact e)⟩
  rw[show ((k+1:Nat):Int)-1=(k:Int) by omega]
  exact cC (by rw[ET,el];rfl)
theorem Ring.few {m:Nat}{ns:List (List Int)}{Z:List Int}(h:Ring m ns Z)(h3:Z.length<3):∃x y,atI (Z.map V.int) 0=some (.int x)/\atI (Z.map V.int) (-1)=some (.int y)/\Z.length<=ns.count (nrm x y):=by
 match Z,h,h3 with
 | [],h,_=>exact absurd rfl h.ne
 | [a],h,_ =>
  refine ⟨a,a,rfl,rfl,?_⟩
  have:nrm a a∈ns/\True:=h.ch
  exact Gs.mpr this.1
 | [a,b],h,_=>exact ⟨a,b,rfl,rfl,h.two a b rfl⟩
 | a :: b :: c :: t,_,h3=>simp at h3;lia
theorem Ring.mono {m:Nat}{ns ns':List (List Int)}{Z:List Int}(h:Ring m ns Z)(hc:∀t,ns.count t<=ns'.count t):Ring m ns' Z:=by
 refine ⟨h.ne,h.nd,h.rng,jW λi x y e1 e2 =>?_,λx y e=>Ff (h.two x y e) (hc _)⟩
 have:nrm x y∈ns:=mw h.ch i x y e1 e2
 exact Gs.mp (Ff (Gs.mpr this) (hc _))
theorem nN (q:List Int->Bool)(ns:List (List Int))(t:List Int):(ns.filter q).count t<=ns.count t:=List.Sublist.count_le t JY
structure LyG (ns:List (List Int))(m:Nat)(tie:Bool)(P:List Int):Prop where
 ti:tie=true->P≠[]/\P.Pairwise (· < ·)/\∀v∈P,1<tin ns P v
 ri:tie=false->Ring m ns P/\Dh P
theorem wg {ns:List (List Int)}{m:Nat}{Z:List Int}{M:Int}(h:Ring m ns Z)(hM:M∈Z)(mn:∀b∈Z,M<=b):LyG ns m false (frm Z M):=⟨λz=>Bool.noConfusion z,λ_=>⟨h.frm hM,An h.nd hM mn⟩⟩
theorem tm {ns:List (List Int)}{m:Nat}{Z:List Int}{M M':Int}(h:Ring m ns Z)(hM:M∈Z)(mn:∀b∈Z,M<=b)(hM':M'∈frm Z M)(mn':∀b∈frm Z M,M'<=b):LyG ns m false (frm (frm Z M) M'):=wg (h.frm hM) hM' mn'
theorem qT {a b:Int}(h0:0<b)(a0:0<a):0<rt a b:=by
 have e:=zT a b
 have g:=gX (a:=a) h0
 apply FZ
 intro c
 have:=Iq (show rt a b<=0 by lia) (Jb g)
 rw[e,Int.mul_zero] at this
 lia
@[irreducible] def my (K:Ez):Sp:=λvs H Q _=>∃(p r:Addr) (m:Nat) (ts:LAz),vs=[.ref p,.ref r]/\Pt 2 H p/\Wb H r m ts/\m<=40/\(∀H',Bu 2 p H H'->Q .non H')/\∀(la:Addr) (tie:Bool) (P:List Int) (s0 s1:Int) (H':Hp),Bu 2 p H H'->Lyr K H' la tie m P s0 s1->P.length<=120->LyG (ts.map (·.2)) m tie P->0<s0->s0.natAbs<2 ^ 200->s1.natAbs<2 ^ 200->Q (.ref la) H'
theorem hX {K:Ez}{vs:List V}{H:Hp}{Q:VK}{E:XK}:my K vs H Q E↔∃(p r:Addr) (m:Nat) (ts:LAz),vs=[.ref p,.ref r]/\Pt 2 H p/\Wb H r m ts/\m<=40/\(∀H',Bu 2 p H H'->Q .non H')/\∀(la:Addr) (tie:Bool) (P:List Int) (s0 s1:Int) (H':Hp),Bu 2 p H H'->Lyr K H' la tie m P s0 s1->P.length<=120->LyG (ts.map (·.2)) m tie P->0<s0->s0.natAbs<2 ^ 200->s1.natAbs<2 ^ 200->Q (.ref la) H':=by
 delta my
 exact Ge
section
theorem fG:aG ["pot", "web", "some", "share", "base", "way", "ring"] ["pot", "web"] (au qv):=⟨rfl,rfl,rfl,by decide +kernel,rfl,by decide +kernel,by decide +kernel⟩
theorem iS:(["place", "some"]:List Str).Nodup:=by decide +kernel
theorem Ao (F:Fun K "_law_layer" "_law_layer" qv f fd)(B:Blt mg)(cLSomePlaces:Cal P w K mg base 2 "_law_some_places" ["pot", "many"] qK)(cLShare:Cal P w K mg base 3 "_law_share" ["pot"] (BG K))(cLBase:Cal P w K mg base 2 "_law_base" ["web", "places"] qQ)(cLTake:Cal P w K mg base 1 "_law_take" ["pot", "many"] fg)(cLeastRing:Cal P w K mg base 5 "least_ring" ["web"] ml)(cCutWeb:Cal P w K mg base 1 "cut_web" ["web", "places"] vI)(cRingForm:Cal P w K mg base 1 "ring_form" ["ring"] kP)(cLAnyRing:Cal P w K mg base 2 "_law_any_ring" ["pot", "web", "base"] qR):aV P w K mg base CX0 6 f fd ["pot", "web"] (my K):=by
 refine F.ok fG (λvs H Q E h =>?_) (λcdv A outer s H vs Q E hr h =>?_)
 ·obtain ⟨_,_,_,_,rfl,_⟩:=hX.mp h
  rfl
 obtain ⟨p,r,m,ts,rfl,hp,W,m4,q0,q1⟩:=hX.mp h
 refine ⟨_,(ah (aB (i:=2) fG.nd rfl (Or.inr rfl) (ay cLSomePlaces hr (by decide) rfl (aa (pv 0) (aa (ax av (pv 1) ae (λ_ _=>rfl)) ag rfl) rfl)))
  (ah (aB (i:=3) fG.nd rfl (Or.inl rfl) (ay cLShare hr (by decide) rfl (aa (pv 0) ag rfl)))
  (ah (aB (i:=4) fG.nd rfl (Or.inl rfl) (ay cLBase hr (by decide) rfl (aa (pv 1) (aa (pv 2) ag rfl) rfl)))
  (ah (aB (i:=5) fG.nd rfl (Or.inl rfl) (ay cLTake hr (by decide) rfl (aa (pv 0) (aa ae ag rfl) rfl)))
  (ah (aU (PW.pt (gm (aA bN (pv 5) ae (aK _)) (fM (aA (vt hr) (pv 4) (bw ag) (aK _))))) (ah (aB (i:=6) fG.nd rfl (Or.inl rfl) (ay cLeastRing hr (by decide) rfl (aa (ay cCutWeb hr (by decide) rfl (aa (pv 1) (aa (bq aZ rfl B.b_tuple cR (aa (bc ["place", "some"] [none,some 2] rfl (aY rfl B.b_range (aa (ax av (pv 1) ae (λ_ _=>rfl)) ag rfl)) rfl (λ_ _ _ _ _=>(aE (i:=0) iS rfl (Or.inl rfl))) (λ_ _ _ _ _=>(dO (aA (iq (K:=K)) (pv 0) (pv 1) rfl))) (λ_ _ _ _ _=>(pv 0))) ag rfl)) ag rfl) rfl)) ag rfl)))
   (ah (aU (aA tN (pv 6) cU (aK _)) (aq (aF cU)) aM)
   (aq (aF (bw (aa fL (aa (ay cRingForm hr (by decide) rfl (aa (pv 6) ag rfl)) (aa (pv 3) ag rfl) rfl) rfl)))))) aM)
  (ah (aU (aA bN (pv 5) ae (aK _)) (aq (aF (bw (aa fL (aa (ay cRingForm hr (by decide) rfl (aa (ay cLAnyRing hr (by decide) rfl (aa (pv 0) (aa (pv 1) (aa (pv 4) ag rfl) rfl) rfl)) ag rfl)) (aa (pv 3) ag rfl) rfl) rfl)))) aM)
  (aq (aF (bw (aa fL (aa (pv 4) (aa (pv 3) ag rfl) rfl) rfl)))))))))),?_⟩
 obtain ⟨t,e1,e2⟩:=W.at'
 refine ⟨_,rfl,_,rfl,r,_,0,_,rfl,rfl,SqT.of e1,rfl,jj.mpr ⟨p,m,rfl,hp,m4,λso So H1 b1 eo1 ro lo pwo =>?_⟩⟩
 refine ⟨_,rfl,nL.mpr ⟨p,rfl,b1.pot,λsh a c H2 b2 t2 h0 a0 sa sb =>?_⟩⟩
 have b12:=b1.trans b2
 have eo2:=b2.tup b1.pot eo1
 refine ⟨_,rfl,_,rfl,jk.mpr ⟨r,so,m,ts,So,rfl,W.bu b12 hp,eo2,by lia,λbs Bs H3 s3 ebs subs lbs degs pwb =>?_⟩⟩
 have b3:=b12.same s3
 have t3:=t2.same s3
 refine ⟨_,rfl,aN.mpr ⟨p,3,rfl,b3.pot,by decide,by decide,λwy H4 w0 w1 b4 =>?_⟩⟩
 have b34:=b3.trans b4
 have eo4:=b4.tup b3.pot (s3 _ _ eo2)
 have ebs4:=b4.tup b3.pot ebs
 have t4:=t3.bu b4 b3.pot
 refine ⟨_,rfl,rfl,_,rfl,dE (λz=>aP ?_) λz =>?_⟩
 ·refine ⟨_,rfl,_,rfl,r,_,0,_,rfl,rfl,SqT.of (b34.tup hp e1),rfl,(m:Int),rfl,by lia,by lia,bE (λi ys H'=>H'=H4/\∃ws:List Int,ys=ws.map V.int/\ws.length<=i) ⟨rfl,[],rfl,EI _⟩ (aW (by lia)) ?_ ?_⟩
  ·rintro i ys H8 hi _ ⟨rfl,ws,rfl,lw⟩ R1 R0 r1 r0
   refine ⟨_,rfl,_,rfl,so,_,rfl,.inr (SqT.of eo4),rfl,bM So,_,rfl,dE (λz=>⟨_,rfl,r1 _ _ ⟨rfl,ws++[0+(i:Int)],by rw[ER];rfl,by rw[EE];show _+1<=_;lia⟩⟩) λz=>r0 _ ⟨rfl,ws,rfl,by lia⟩⟩
  rintro ys H8 _ ⟨rfl,ws,rfl,lw⟩ l hl
  have g8:=ak hl (.lst (ws.map V.int))
  refine ⟨l,_,rfl,.inl ⟨SqL.of ai,λtp htp =>?_⟩⟩
  have g9:=g8.trans (ak htp (.tup (ws.map V.int)))
  refine iF.mpr ⟨r,tp,m,ts,ws,rfl,(W.bu b34 hp).same g9,.inr ai,λz us' H10 s10 W10 eo10 =>?_⟩
  have b10:=b34.same (g9.trans s10)
  have T10:=(t4.same g9).same s10
  refine eE.mpr ⟨z,m,us',rfl,W10,by lia,λH11 s11 _ =>?_,λz2 H11 Z M s11 ez hM mn hAl _ =>?_⟩
  ·exact ⟨_,rfl,rfl,_,rfl,aP (q0 _ (b10.same s11))⟩
  obtain ⟨a',c',hab,hA⟩:=hAl
  have RG0:=Al.ring (nE W10) hab hA
  have RG:Ring m (ts.map (·.2)) Z:=RG0.mono λt=>by rw[eo10];exact nN _ _ _
  have lZ:=fC RG.nd RG.rng
  refine ⟨_,rfl,rfl,_,rfl,aQ ⟨_,rfl,cG.mpr ⟨z2,frm Z M,rfl,ez,Ah RG.ne,by rw[cu];lia,λz3 H12 M' s12 hM' mn' e12 =>?_⟩⟩⟩
  refine ⟨_,rfl,(by show 3<=ES;decide),λla hla =>?_⟩
  have g13:=ak hla (.tup [.str "ring",.ref z3,.ref sh])
  exact q1 la false (frm (frm Z M) M') _ _ _ (b10.same (s11.trans (s12.trans g13))) ⟨⟨z3,sh,ai,g13 _ _ e12,((T10.same s11).same s12).same g13⟩,λv hv=>RG.rng v (j4 (j4 hv)),by rw[cu,cu];lia,fX h0,lM (fD sa) (dW h0),lM (fD sb) (dX h0),nH h0⟩ (by rw[cu,cu];lia) (tm RG hM mn hM' mn') (qT h0 a0) (Fb (dW h0) sa) (Fb (dX h0) sb)
 refine ⟨_,rfl,(by show 0<=ES;decide),λo5 ho5 =>?_⟩
 have g5:=ak ho5 (.tup [])
 have e5:upd H4 o5 (.tup []) o5=some (.tup (([]:List Int).map V.int)):=ai
 have b5:=b34.same g5
 have eo5:=g5 _ _ eo4
 have t5:=t4.same g5
 have ebs5:=g5 _ _ ebs4
 generalize upd H4 o5 (.tup [])=H5 at g5 e5 b5 eo5 t5 ebs5
 refine ⟨bs,o5,Bs,[],rfl,rfl,SqT.of ebs5,SqT.of e5,_,rfl,dE (λz5 =>?_) λz5 =>?_⟩
 ·refine ⟨_,rfl,_,rfl,r,_,0,_,rfl,rfl,SqT.of (b5.tup hp e1),rfl,(m:Int),rfl,by lia,by lia,bE (λi ys H'=>H'=H5/\∃ws:List Int,ys=ws.map V.int/\ws.length<=i) ⟨rfl,[],rfl,EI _⟩ (aW (by lia)) ?_ ?_⟩
  ·rintro i ys H8 hi _ ⟨rfl,ws,rfl,lw⟩ R1 R0 r1 r0
   refine ⟨_,rfl,_,rfl,so,_,rfl,.inr (SqT.of eo5),rfl,bM So,_,rfl,dE (λz=>⟨_,rfl,r1 _ _ ⟨rfl,ws++[0+(i:Int)],by rw[ER];rfl,by rw[EE];show _+1<=_;lia⟩⟩) λz=>r0 _ ⟨rfl,ws,rfl,by lia⟩⟩
  rintro ys H8 _ ⟨rfl,ws,rfl,lw⟩ l hl
  have g8:=ak hl (.lst (ws.map V.int))
  refine ⟨l,_,rfl,.inl ⟨SqL.of ai,λtp htp =>?_⟩⟩
  have g9:=g8.trans (ak htp (.tup (ws.map V.int)))
  refine iF.mpr ⟨r,tp,m,ts,ws,rfl,(W.bu b5 hp).same g9,.inr ai,λz us' H10 s10 W10 eo10 =>?_⟩
  have b10:=b5.same (g9.trans s10)
  have T10:=(t5.same g9).same s10
  refine eE.mpr ⟨z,m,us',rfl,W10,by lia,λH11 s11 _ =>?_,λz2 H11 Z M s11 ez hM mn hAl _ =>?_⟩
  ·exact ⟨_,rfl,rfl,_,rfl,aP (q0 _ (b10.same s11))⟩
  obtain ⟨a',c',hab,hA⟩:=hAl
  have RG0:=Al.ring (nE W10) hab hA
  have RG:Ring m (ts.map (·.2)) Z:=RG0.mono λt=>by rw[eo10];exact nN _ _ _
  have lZ:=fC RG.nd RG.rng
  refine ⟨_,rfl,rfl,_,rfl,aQ ⟨_,rfl,cG.mpr ⟨z2,frm Z M,rfl,ez,Ah RG.ne,by rw[cu];lia,λz3 H12 M' s12 hM' mn' e12 =>?_⟩⟩⟩
  refine ⟨_,rfl,(by show 3<=ES;decide),λla hla =>?_⟩
  have g13:=ak hla (.tup [.str "ring",.ref z3,.ref sh])
  exact q1 la false (frm (frm Z M) M') _ _ _ (b10.same (s11.trans (s12.trans g13))) ⟨⟨z3,sh,ai,g13 _ _ e12,((T10.same s11).same s12).same g13⟩,λv hv=>RG.rng v (j4 (j4 hv)),by rw[cu,cu];lia,fX h0,lM (fD sa) (dW h0),lM (fD sb) (dX h0),nH h0⟩ (by rw[cu,cu];lia) (tm RG hM mn hM' mn') (qT h0 a0) (Fb (dW h0) sa) (Fb (dX h0) sb)
 have Bn:Bs≠[]:=λz'=>z5 (decide_eq_true z')
 have rB:∀v∈Bs,0<=v/\v<m:=λv hv=>ro v (subs v hv)
 refine ⟨_,rfl,rfl,_,rfl,dE (λz6 =>?_) λz6 =>?_⟩
 ·refine ⟨_,rfl,_,rfl,_,rfl,js.mpr ⟨p,r,bs,m,ts,Bs,rfl,b5.pot,W.bu b5 hp,ebs5,Bn,by lia,degs,λz7 Z H7 b7 ez nZ sZ lZ cZ =>?_⟩⟩
  have t7:=t5.bu b7 b5.pot
  refine cG.mpr ⟨z7,Z,rfl,ez,nZ,by lia,λz3 H12 M' s12 hM' mn' e12 =>?_⟩
  refine ⟨_,rfl,(by show 3<=ES;decide),λla hla =>?_⟩
  have g13:=ak hla (.tup [.str "ring",.ref z3,.ref sh])
  exact q1 la false (frm Z M') _ _ _ ((b5.trans b7).same (s12.trans g13)) ⟨⟨z3,sh,ai,g13 _ _ e12,(t7.same s12).same g13⟩,λv hv=>rB v (sZ v (j4 hv)),by rw[cu];lia,fX h0,lM (fD sa) (dW h0),lM (fD sb) (dX h0),nH h0⟩ (by rw[cu];lia) (wg (cZ.ring nZ λv hv=>rB v (sZ v hv)) hM' mn') (qT h0 a0) (Fb (dW h0) sa) (Fb (dX h0) sb)
 ·refine ⟨_,rfl,_,rfl,(by show 3<=ES;decide),λla hla =>?_⟩
  have g13:=ak hla (.tup [.str "ties",.ref bs,.ref sh])
  exact q1 la true Bs _ _ _ (b5.same g13) ⟨⟨bs,sh,ai,g13 _ _ ebs5,t5.same g13⟩,rB,by lia,fX h0,lM (fD sa) (dW h0),lM (fD sb) (dX h0),nH h0⟩ (by lia) ⟨λ_=>⟨Bn,pwb pwo,degs⟩,λz=>Bool.noConfusion z⟩ (qT h0 a0) (Fb (dW h0) sa) (Fb (dX h0) sb)
end
theorem Ap {K:Ez}{H:Hp}{l a:Addr}{us:List (Addr×Int×Int)}{g:Nat->Int×Int}{x y:Int}(e:H l=some (.lst (us.map λu =>.ref u.1)))(t:∀u∈us,Two K H u.1 u.2.1 u.2.2)(v:∀(j:Nat) u,us[j]? = some u->u.2=g j)(ta:Two K H a x y)(hx:(x,y)=g us.length):fh K (us.length+1) (upd H l (.lst (us.map (λu=>V.ref u.1)++[.ref a]))) l g:=by
 refine ⟨us++[(a,x,y)],by rw[ai,ER];rfl,by rw[EE];rfl,λu hu =>?_,λj u hu =>?_⟩
 ·rcases EU.mp hu with z | z
  ·exact (t u z).put e
  ·rw[ED.mp z];exact ta.put e
 ·by_cases c:j<us.length
  ·rw[E1 c] at hu
   exact v j u hu
  ·have hl:=(EJ.mp hu).1
   rw[EE] at hl
   have hl:j<us.length+1:=hl
   have:j=us.length:=by lia
   subst this
   rw[E6 (EI _),G1] at hu
   rw[<- EX hu];exact hx
theorem Cg {i:Int}(h0 : -100000<i)(h1:i<100000):Wd i:=(hJ h0 h1).wd
section
theorem aX:aG ["web", "layer", "word", "places", "share", "ties", "found", "place", "take"] ["web", "layer"] (au dG):=⟨rfl,rfl,rfl,by decide +kernel,rfl,by decide +kernel,by decide +kernel⟩
theorem oy (F:Fun K "_law_layer_takes" "_law_layer_takes" dG f fd)(B:Blt mg)(cLTiesIn:Cal P w K mg base 1 "_law_ties_in" ["web", "places"] pF)(cLLowest:Cal P w K mg base 2 "_law_lowest" ["top", "bottom"] (l6 K)):aV P w K mg base CX0 3 f fd ["web", "layer"] (iK K):=by
 refine F.ok aX (λvs H Q E h =>?_) (λcdv A outer s H vs Q E hr h =>?_)
 ·obtain ⟨_,_,_,_,_,_,_,_,rfl,_⟩:=cJ.mp h
  rfl
 obtain ⟨r,la,m,ts,tie,Pl,s0,s1,rfl,W,m4,LY,q⟩:=cJ.mp h
 have hu:(ku CX0 P w K mg base ["web", "layer", "word", "places", "share", "ties", "found", "place", "take"] "_law_layer_takes" (au dG) f cdv A outer s H E).nox.A.units+1<cLine:=oJ hr
 refine ⟨_,(ah (ki (pv 1) (mC rfl (bY (aE (i:=2) aX.nd rfl (Or.inl rfl)) (bY (aE (i:=3) aX.nd rfl (Or.inl rfl)) (bY (aE (i:=4) aX.nd rfl (Or.inl rfl)) jD)))) rfl rfl rfl)
  (ah (aB (i:=5) aX.nd rfl (Or.inl rfl) (ay cLTiesIn hr (by decide) rfl (aa (pv 0) (aa (pv 3) ag rfl) rfl)))
  (ah (aB (i:=6) aX.nd rfl (Or.inl rfl) (cy ag))
  (ah (bB Fp rfl (aY rfl B.b_range (aa (ax av (pv 0) ae (λ_ _=>rfl)) ag rfl)) (aE (i:=7) aX.nd rfl (Or.inl rfl))
   (ah (aB (i:=8) aX.nd rfl (Or.inl rfl) (bw (aa ae (aa ae ag rfl) rfl)))
   (ah (aU (PW.pt (cK (dJ (gG hu (pv 7) (pv 5))) (bX (aA bN (pv 2) fL (aK _))))) (aq (aB (i:=8) aX.nd rfl (Or.inl rfl) (pv 4))) aM)
   (ah (aU (PW.pt (cK (dJ (gG hu (pv 7) (pv 5))) (bX (aA bN (pv 2) fL (aK _))))) (aq (aB (i:=8) aX.nd rfl (Or.inl rfl) (ay cLLowest hr (by decide) rfl (aa (aD bQ (ax av (pv 4) ae (λ_ _=>rfl)) (aD gx (eC hu (pv 5) (pv 7) (λ_ _=>rfl)) ae)) (aa (ax av (pv 4) ae (λ_ _=>rfl)) ag rfl) rfl)))) aM)
   (aq (da (gA FY Ga Gb cg (pv 6) (aa (pv 8) ag rfl))))))) (λ_=>rfl))
  (aq (aF (pv 6))))))),?_⟩
 obtain ⟨t,e1,e2⟩:=W.at'
 obtain ⟨pl,sh,ea,ep,es⟩:=LY.at'
 have tl:=Ff W.len (show 60<=200 by decide)
 refine ⟨_,rfl,la,_,rfl,SqT.of ea,rfl,_,_,rfl,_,_,rfl,_,_,rfl,rfl,?_⟩
 refine ⟨_,rfl,_,rfl,fF.mpr ⟨r,pl,m,ts,Pl,rfl,W,.inr ep,LY.len,λd H1 s1' hd D1 =>?_⟩⟩
 refine ⟨(by show 0<=ES;decide),λl hl =>?_⟩
 have hl0:=s1'.free hl
 have ndl:d≠l:=λz=>by
  obtain ⟨kvs,e,_⟩:=D1
  rw[z,hl] at e;cases e
 have g2:=s1'.trans (ak hl (.lst []))
 have D2:=D1.same (ak hl (.lst []))
 have T2:fh K 0 (upd H1 l (.lst [])) l (tkv tie (tin (ts.map (·.2)) Pl) s0 s1 Pl):=⟨[],ai,rfl,(λu h=>nomatch h),λj u h=>nomatch h⟩
 generalize upd H1 l (.lst [])=H2 at g2 D2 T2
 let W0:Nat->St->Hp->Prop:=λk σ H'=>(∃c7 c8,σ=[some (.ref r),some (.ref la),some (.str (wrd tie)),some (.ref pl),some (.ref sh),some (.ref d),some (.ref l),c7,c8])/\az H H'/\Dn H' d Pl (tin (ts.map (·.2)) Pl) 1000/\fh K k H' l (tkv tie (tin (ts.map (·.2)) Pl) s0 s1 Pl)
 refine ⟨_,rfl,r,_,0,_,rfl,rfl,SqT.of (g2 _ _ e1),rfl,(m:Int),rfl,by lia,by lia,cV W0 ⟨⟨_,_,rfl⟩,g2,D2,T2⟩ ?_ ?_⟩
 ·rintro k σ H3 hk ⟨⟨c7,c8,rfl⟩,s3,D3,us,el,lu,tu,vu⟩
  have hkm:k<m:=by lia
  refine ⟨(by show 2<=ES;decide),λt0 ht0 =>?_⟩
  have g4:=ak ht0 (.tup [.int 0,.int 1])
  have e4:Two K (upd H3 t0 (.tup [.int 0,.int 1])) t0 0 1:=SqT.of ai
  have s4:=s3.trans g4
  have D4:=D3.same g4
  have el4:=g4 _ _ el
  have tu4:∀u∈us,Two K (upd H3 t0 (.tup [.int 0,.int 1])) u.1 u.2.1 u.2.2:=λu hu=>(tu u hu).same g4
  generalize upd H3 t0 (.tup [.int 0,.int 1])=H4 at g4 e4 s4 D4 el4 tu4
  have gk:=D4.get (0+(k:Int))
  have es4:=es.same s4
  have fin:∀{H5:Hp} {a:Addr} {x y:Int},az H4 H5->Two K H5 a x y->(x,y)=tkv tie (tin (ts.map (·.2)) Pl) s0 s1 Pl k->az H (upd H5 l (.lst (us.map (λu=>V.ref u.1)++[.ref a])))/\Dn (upd H5 l (.lst (us.map (λu=>V.ref u.1)++[.ref a]))) d Pl (tin (ts.map (·.2)) Pl) 1000/\fh K (k+1) (upd H5 l (.lst (us.map (λu=>V.ref u.1)++[.ref a]))) l (tkv tie (tin (ts.map (·.2)) Pl) s0 s1 Pl):=λ{H5 a x y} s5 ta hx=>by
   refine ⟨az.cF (s4.trans s5) hl0 _,?_,?_⟩
   ·obtain ⟨kvs,e,r⟩:=D4.same s5
    exact ⟨kvs,by rw[aH ndl];exact e,r⟩
   ·have:=Ap (s5 _ _ el4) (λu hu=>(tu4 u hu).same s5) vu ta (by rw[lu];exact hx)
    rw[lu] at this
    exact this
  have lm:(us.map λu=>V.ref u.1).length<ES:=dD (by rw[Ex];lia)
  refine ⟨_,rfl,_,rfl,d,_,rfl,gk,_,rfl,?_⟩
  by_cases ck:(k:Int)∈Pl
  case neg =>
   have ck':¬ 0+(k:Int)∈Pl:=by rw[G5];exact ck
   rw[if_neg ck'] at gk ⊢
   refine aQ (aQ ⟨_,rfl,_,rfl,d,_,rfl,gk,_,rfl,aQ (aQ ⟨_,rfl,.inl ⟨rfl,_,SqL.of el4⟩,_,rfl,l,_,_,rfl,rfl,el4,lm,⟨_,_,rfl⟩,fin (az.refl _) e4 ?_⟩)⟩)
   unfold tkv
   rw[if_neg ck]
  have ck':0+(k:Int)∈Pl:=by rw[G5];exact ck
  rw[if_pos ck'] at gk ⊢
  refine aP ⟨_,rfl,rfl,_,rfl,?_⟩
  rw[tf]
  cases tie with
  | false =>
   refine aP ⟨_,rfl,_,rfl,_,rfl,d,_,rfl,gk,_,rfl,aP ⟨_,rfl,rfl,_,rfl,?_⟩⟩
   rw[nM]
   refine aQ ⟨_,rfl,.inl ⟨rfl,_,SqL.of el4⟩,_,rfl,l,_,_,rfl,rfl,el4,lm,⟨_,_,rfl⟩,fin (az.refl _) es4 ?_⟩
   unfold tkv
   rw[if_pos ck];rfl
  | true =>
   have tb:=uP (ts.map (·.2)) Pl (0+(k:Int))
   rw[Ex] at tb
   refine aQ ⟨_,rfl,_,rfl,d,_,rfl,gk,_,rfl,aP ⟨_,rfl,rfl,_,rfl,?_⟩⟩
   rw[nM]
   refine aP ⟨_,rfl,sh,_,0,_,rfl,rfl,es4,at0,_,rfl,_,rfl,d,_,rfl,gk,_,_,rfl,rfl,_,_,rfl,rfl,⟨LY.sa.wd,Cg (by lia) (by lia)⟩,_,rfl,sh,_,1,_,rfl,rfl,es4,at1,bV.mpr ⟨_,s1,rfl,LY.pos,LY.sb.wd,λz H5 s5 tz =>?_⟩⟩
   have el5:=s5 _ _ el4
   refine ⟨_,rfl,.inl ⟨rfl,_,SqL.of el5⟩,_,rfl,l,_,_,rfl,rfl,el5,lm,⟨_,_,rfl⟩,fin s5 tz ?_⟩
   unfold tkv
   rw[if_pos ck,if_pos rfl,G5]
 ·rintro σ H3 ⟨⟨c7,c8,rfl⟩,s3,D3,T3⟩
  rw[show ((m:Nat):Int).toNat=m by lia] at T3
  exact ⟨_,rfl,q l _ s3 hl0 T3⟩
end
section
end
def rise (ns:List Int):Bool:=decide (ns.Pairwise (· < ·))
def adj (ns:List Int):List Bool:=List.zipWith (λa b=>decide (a<b)) ns (ns.drop 1)
theorem BJ (ns:List Int):(adj ns).length=ns.length-1:=by
 unfold adj
 rw[List.length_zipWith,FD];lia
theorem wj:∀ns:List Int,(adj ns).all id=rise ns
 | []=>by unfold rise;simp[adj]
 | [a]=>by unfold rise;simp[adj]
 | a :: b :: t=>by
  have ih:=wj (b :: t)
  have e:adj (a :: b :: t)=decide (a<b) :: adj (b :: t):=rfl
  rw[e,LW,ih]
  unfold rise
  rw[Hm,Fh,decide_eq_true_iff,decide_eq_true_iff,L6 (l:=b :: t)]
  show decide (a<b)=true/\_↔_
  rw[decide_eq_true_iff]
  constructor
  ·rintro ⟨h,p⟩
   refine ⟨λx hx =>?_,p⟩
   rcases EW.mp hx with rfl | hx
   ·exact h
   ·exact Int.lt_trans h ((L6.mp p).1 x hx)
  ·rintro ⟨h,p⟩
   exact ⟨h b (E7 ..),p⟩
theorem uR (xs:List V):cS xs (some 1) none=xs.drop 1:=by
 unfold cS HT.sIx
 cases xs with
 | nil=>rfl
 | cons a l=>simp
theorem Di {ns:List Int}{i:Nat}{x y:V}(hx:(ns.map V.int)[i]? = some x)(hy:((ns.map V.int).drop 1)[i]? = some y):∃u v:Int,x = .int u/\y = .int v/\(adj ns)[i]? = some (decide (u<v)):=by
 rw[<- Ik,ET] at hy
 rw[ET] at hx
 obtain ⟨u,eu,rfl⟩:=Hf.mp hx
 obtain ⟨v,ev,rfl⟩:=Hf.mp hy
 refine ⟨u,v,rfl,rfl,?_⟩
 unfold adj
 rw[List.getElem?_zipWith,eu,ev]
def inR (m:Nat)(x:Int):Bool:=decide (0<=x) && decide (x<m)
def isSet (m:Nat)(ns:List Int):Bool:=rise ns && ns.all (inR m)
abbrev wm:Sp:=λvs H Q _=>∃(p:Addr) (ns:List Int),vs=[.ref p]/\H p=some (.tup (ns.map V.int))/\ns.length<=500/\∀H',az H H'->Q (.bl (rise ns)) H'
@[irreducible] def qU:Sp:=wm
theorem jt {vs:List V}{H:Hp}{Q:VK}{E:XK}:qU vs H Q E↔wm vs H Q E:=by
 delta qU
 exact Ge
section
theorem uT:aG ["row"] ["row"] (au kG):=⟨rfl,rfl,rfl,by decide +kernel,rfl,by decide +kernel,by decide +kernel⟩
theorem ia:(["one", "other"]:List Str).Nodup:=by decide +kernel
theorem uU (F:Fun K "is_rising" "is_rising" kG f fd)(B:Blt mg):aV P w K mg base CX0 1 f fd ["row"] qU:=by
 refine F.ok uT (λvs H Q E h =>?_) (λcdv A outer s H vs Q E hr h =>?_)
 ·obtain ⟨_,_,rfl,_⟩:=jt.mp h
  rfl
 obtain ⟨p,ns,rfl,ep,l5,q⟩:=jt.mp h
 refine ⟨_,(aq (aF (aI (mQ rfl) rfl B.b_all uF (aa (bc ["one", "other"] [none,none] rfl (qp false false rfl B.b_zip (aa (pv 0) (aa (cc jS (pv 0) (cO ae) cN) ag rfl) rfl)) rfl (λ_ _ _ _ _=>(mW (K:=K) (i:=0) (j:=1) ia rfl rfl (Or.inl rfl) (Or.inl rfl))) (λ_ _ _ _ _=>cf) (λ_ _ _ _ _=>(de oD (pv 0) (pv 1) (aK _)))) ag rfl)))),?_⟩
 have lm:(ns.map V.int).length=ns.length:=Ex _
 refine ⟨_,rfl,_,rfl,1,rfl,p,_,rfl,ep,λp2 H2 s2 e2 =>?_⟩
 rw[uR] at e2
 have ep2:=s2 _ _ ep
 have ld:((ns.map V.int).drop 1).length=ns.length-1:=by rw[FD,lm]
 refine ⟨p,p2,rfl,⟨_,SqT.of ep2⟩,⟨_,SqT.of e2⟩,zy (ns.length-1) (by rw[lm];lia) (by rw[ld];lia) (.inr ld.symm) (λi zs H'=>az H2 H'/\zs=((adj ns).take i).map V.bl) (by decide) ⟨az.refl _,rfl⟩ (small (by lia)) (λi zs H' _ k=>⟨SqT.of (k.1 _ _ ep2),SqT.of (k.1 _ _ e2)⟩) ?_ ?_⟩
 ·rintro i x y zs H' T' hx hy lz hT' ⟨s',rfl⟩ R1 R0 r1 r0
  obtain ⟨u,v,rfl,rfl,euv⟩:=Di hx hy
  refine aP ⟨_,rfl,_,rfl,_,_,rfl,rfl,r1 _ _ ⟨s'.trans (ak hT' _),?_⟩⟩
  rw[FW,euv,ER];rfl
 ·rintro zs H' lz ⟨s',rfl⟩ c5 hc5
  rw[show (adj ns).take (ns.length-1)=adj ns from Fv (by rw[BJ];exact EI _)]
  refine ⟨c5,_,rfl,SqL.of ai,?_⟩
  rw[wj]
  exact q _ (s2.trans (s'.trans (ak hc5 _)))
end
abbrev Aq:Sp:=λvs H Q _=>∃(r p:Addr) (m:Nat) (ts:LAz) (ns:List Int),vs=[.ref r,.ref p]/\Wb H r m ts/\H p=some (.tup (ns.map V.int))/\ns.length<=500/\∀H',az H H'->Q (.bl (isSet m ns)) H'
@[irreducible] def wo:Sp:=Aq
theorem lb {vs:List V}{H:Hp}{Q:VK}{E:XK}:wo vs H Q E↔Aq vs H Q E:=by
 delta wo
 exact Ge
section
theorem yb:aG ["web", "places"] ["web", "places"] (au ny):=⟨rfl,rfl,rfl,by decide +kernel,rfl,by decide +kernel,by decide +kernel⟩
theorem iT:(["place", "web"]:List Str).Nodup:=by decide +kernel
theorem yc (F:Fun K "is_set_of" "is_set_of" ny f fd)(B:Blt mg)(cIsRising:Cal P w K mg base 1 "is_rising" ["row"] qU):aV P w K mg base CX0 2 f fd ["web", "places"] wo:=by
 refine F.ok yb (λvs H Q E h =>?_) (λcdv A outer s H vs Q E hr h =>?_)
 ·obtain ⟨_,_,_,_,_,rfl,_⟩:=lb.mp h
  rfl
 obtain ⟨r,p,m,ts,ns,rfl,W,ep,l5,q⟩:=lb.mp h
 refine ⟨_,(aq (aF (kg (ay cIsRising hr (by decide) rfl (aa (pv 1) ag rfl)) (j9 (aI (mQ rfl) rfl B.b_all uF (aa (bc ["place", "web"] [none,some 0] rfl (eR (pv 1)) rfl (λ_ _ _ _ _=>(aE (i:=0) iT rfl (Or.inl rfl))) (λ_ _ _ _ _=>cf) (λ_ _ _ _ _=>(yF B0 oD ae (pv 0) (ax (dh (K:=K)) (pv 1) ae (λ_ _=>rfl))))) ag rfl)))))),?_⟩
 obtain ⟨t,e1,e2⟩:=W.at'
 refine ⟨_,rfl,jt.mpr ⟨p,ns,rfl,ep,l5,λH1 s1=>⟨_,rfl,dE (λz =>?_) (λz =>?_)⟩⟩⟩
 ·refine ⟨_,rfl,p,rfl,⟨_,SqT.of (s1 _ _ ep)⟩,dI (xs:=ns.map V.int) (λi ys H'=>H'=H1/\ys=((ns.take i).map (inR m)).map V.bl) ⟨rfl,rfl⟩ (by rw[Ex];exact small (by lia)) (λi ys H' _ h=>by rw[h.1];exact SqT.of (s1 _ _ ep)) ?_ ?_⟩
  ·rintro i v ys H' hv hy ⟨rfl,rfl⟩ R1 R0 r1 r0
   obtain ⟨x,ex,rfl⟩:=eD hv
   refine aP ⟨_,rfl,_,_,rfl,rfl,_,rfl,dE (λy =>?_) (λy=>r1 _ _ ⟨rfl,?_⟩)⟩
   ·refine ⟨_,rfl,r,_,0,_,rfl,rfl,SqT.of (s1 _ _ e1),rfl,_,_,rfl,rfl,r1 _ _ ⟨rfl,?_⟩⟩
    rw[take_snoc ex,ER,show inR m x=decide (x<m) by unfold inR;rw[y,KH]];rfl
   ·rw[take_snoc ex,ER,show inR m x=false by unfold inR;rw[G0.mpr y,GW]];rfl
  rintro ys H' hy ⟨eH',rfl⟩ al hal
  rw[eH'] at hal ⊢
  rw[Ex,show ns.take ns.length=ns from FI]
  refine ⟨al,_,rfl,SqL.of ai,?_⟩
  have e:((ns.map (inR m)).all id)=isSet m ns:=by
   unfold isSet;rw[z,KH,MA];rfl
  rw[e]
  exact q _ (s1.trans (ak hal _))
 ·have e:isSet m ns=false:=by
   unfold isSet;rw[G0.mpr z,GW]
  rw[e] at q
  exact q _ s1
end
def prv (Z:List Int)(k:Nat):Int:=Z.getD (if k=0 then Z.length-1 else k-1) 0
theorem uV {Z:List Int}{k:Nat}(hk:k<Z.length):atI (Z.map V.int) ((k:Int)-1)=some (.int (prv Z k)):=by
 unfold prv
 cases k with
 | zero =>
  have el:Z[Z.length-1]? = some (Z[Z.length-1]'(by lia)):=EA (by lia)
  rw[if_pos rfl,EF,el]
  unfold atI ixN
  rw[Ex]
  simp
  rw[if_pos (by lia)]
  simp only[MS]
  rw[show (-1+(Z.length:Int)).toNat=Z.length-1 by lia,el];rfl
 | succ k =>
  have el:Z[k]? = some (Z[k]'(by lia)):=EA (by lia)
  rw[if_neg (by lia),EF,show k+1-1=k by lia,el,show ((k+1:Nat):Int)-1=(k:Int) by lia]
  exact cC (by rw[ET,el];rfl)
def IsR (ns:List (List Int))(Z:List Int):Prop:=Z≠[]/\Z.Nodup/\(Z.length=2->2<=ns.count (nrm (Z.getD 0 0) (Z.getD 1 0)))/\(Z.length≠2->∀k,k<Z.length->0<ns.count (nrm (prv Z k) (Z.getD k 0)))
def IsL (m:Nat)(ns:List (List Int))(Z:List Int):Prop:=Z≠[]/\Z.Nodup/\(∀v∈Z,0<=v/\v<m)/\(Z.length<3->Z.length<=ns.count (nrm (Z.getD 0 0) (prv Z 0)))/\(¬ Z.length<3->∀k,k<Z.length->0<ns.count (nrm (prv Z k) (Z.getD k 0)))
theorem qV {m:Nat}{ns:List (List Int)}(O:Ok m ns){a b:Int}(h:0<ns.count (nrm a b)):(0<=a/\a<m)/\0<=b/\b<m:=by
 obtain ⟨x,y,e,x0,xy,ym⟩:=O _ (GR.mp h)
 rcases Kg a b with c | c
 ·rw[bL c] at e;cases e;omega
 ·rw[bK,bL c] at e;cases e;omega
theorem qW {m:Nat}{ns:List (List Int)}(O:Ok m ns)(Z:List Int):IsL m ns Z↔IsR ns Z:=by
 unfold IsL IsR
 match Z with
 | []=>simp
 | [a] =>
  have e:prv [a] 0=a:=rfl
  constructor
  ·rintro ⟨h1,h2,h3,h4,h5⟩
   refine ⟨h1,h2,λz=>absurd z (by simp),λ_ k hk =>?_⟩
   have:k=0:=by simp at hk;omega
   subst this
   exact h4 (by simp)
  ·rintro ⟨h1,h2,h3,h4⟩
   have h:=h4 (by simp) 0 (by simp)
   rw[e] at h
   refine ⟨h1,h2,λv hv =>?_,λ_ =>?_,λz=>absurd (by simp) z⟩
   ·have:v=a:=by simpa using hv
    subst this
    exact (qV O h).1
   ·rw[e];exact h
 | [a,b] =>
  have e:prv [a,b] 0=b:=rfl
  constructor
  ·rintro ⟨h1,h2,h3,h4,h5⟩
   exact ⟨h1,h2,λ_=>h4 (by simp),λz=>absurd rfl z⟩
  ·rintro ⟨h1,h2,h3,h4⟩
   have h:=h3 rfl
   have h':0<ns.count (nrm a b):=EL (by decide) h
   refine ⟨h1,h2,λv hv =>?_,λ_=>h,λz=>absurd (by simp) z⟩
   have:v=a\/v=b:=by simpa using hv
   rcases this with z | z <;> subst z
   ·exact (qV O h').1
   ·exact (qV O h').2
 | a :: b :: c :: t =>
  have l3:¬ (a :: b :: c :: t).length<3:=by simp
  have l2:(a :: b :: c :: t).length≠2:=by simp
  generalize hZ:a :: b :: c :: t=Z at l3 l2
  constructor
  ·rintro ⟨h1,h2,h3,h4,h5⟩
   exact ⟨h1,h2,λz=>absurd z l2,λ_=>h5 l3⟩
  ·rintro ⟨h1,h2,h3,h4⟩
   refine ⟨h1,h2,λv hv =>?_,λz=>absurd z l3,λ_=>h4 l2⟩
   obtain ⟨k,hk,e⟩:=List.mem_iff_getElem.mp hv
   have h:=(qV O (h4 l2 k hk)).2
   rwa [EF,EA hk,e] at h
theorem tq:∀{Z:List Int},¬ Z.Nodup->∃Y:List Int,Y.length<Z.length/\∀k,k∈Z->k∈Y
 | [],h=>absurd Ju h
 | x :: t,h=>by
  by_cases c:x∈t
  ·exact ⟨t,F8 _,λk hk=>(EW.mp hk).elim (λz=>z ▸ c) id⟩
  ·obtain ⟨Y,l,s⟩:=tq (Z:=t) λz=>h (Hn.mpr ⟨c,z⟩)
   exact ⟨x :: Y,Nat.succ_lt_succ l,λk hk=>(EW.mp hk).elim (λz=>z ▸ E7) λz=>E8 _ (s k z)⟩
theorem BK {us Z:List Int}(nu:us.Nodup)(h:∀k,k∈us↔k∈Z):us.length=Z.length↔Z.Nodup:=by
 constructor
 ·intro e
  by_cases c:Z.Nodup
  ·exact c
  ·obtain ⟨Y,l,s⟩:=tq c
   have:=GQ nu λx hx=>s x ((h x).mp hx)
   lia
 ·intro nd
  exact ((IK nu nd).mpr h).length_eq
theorem wq {a b:Nat}:(V.int (a:Int)=V.int (b:Int))↔a=b:=⟨λz=>by injection z with z;lia,λz=>by rw[z]⟩
theorem getD_at {Z:List Int}{k:Nat}{v:Int}(e:Z[k]? = some v):Z.getD k 0=v:=by rw[EF,e];rfl
abbrev pH:Sp:=λvs H Q _=>∃(r p:Addr) (m:Nat) (ts:LAz) (Z:List Int),vs=[.ref r,.ref p]/\Wb H r m ts/\H p=some (.tup (Z.map V.int))/\Z.length<=200/\∀(b:Bool) H',az H H'->(b=true↔IsR (ts.map (·.2)) Z)->Q (.bl b) H'
@[irreducible] def j5:Sp:=pH
theorem f9 {vs:List V}{H:Hp}{Q:VK}{E:XK}:j5 vs H Q E↔pH vs H Q E:=by
 delta j5
 exact Ge
section
theorem nO:aG ["web", "ring", "at", "place"] ["web", "ring"] (au qq):=⟨rfl,rfl,rfl,by decide +kernel,rfl,by decide +kernel,by decide +kernel⟩
theorem Ar (F:Fun K "is_ring" "is_ring" qq f fd)(B:Blt mg)(cTiedTimes:Cal P w K mg base 2 "tied_times" ["web", "one", "other"] jV):aV P w K mg base CX0 3 f fd ["web", "ring"] j5:=by
 refine F.ok nO (λvs H Q E h =>?_) (λcdv A outer s H vs Q E hr h =>?_)
 ·obtain ⟨_,_,_,_,_,rfl,_⟩:=f9.mp h
  rfl
 obtain ⟨r,p,m,ts,Z,rfl,W,ep,l5,q⟩:=f9.mp h
 refine ⟨_,(ah (aU (PW.pt (gm (aA bN (aI aO rfl B.b_len bW (aa (pv 1) ag rfl)) ae (aK _)) (fM (aA lD (aI sk rfl B.b_len bW (aa (bq (uj (w:=w) rfl hr.hd) rfl B.b_set zJ (aa (pv 1) ag rfl)) ag rfl)) (aI aO rfl B.b_len bW (aa (pv 1) ag rfl)) (aK _))))) (aq (aF jB)) aM)
  (ah (aU (aA bN (aI aO rfl B.b_len bW (aa (pv 1) ag rfl)) ae (aK _)) (aq (aF (de vb (ay cTiedTimes hr (by decide) rfl (aa (pv 0) (aa (ax av (pv 1) ae (λ_ _=>rfl)) (aa (ax av (pv 1) ae (λ_ _=>rfl)) ag rfl) rfl) rfl)) ae (aK _)))) aM)
  (ah (bB Fp rfl (A2 rfl B.b_enumerate (aa (pv 1) ag rfl)) (mC rfl (bY (aE (i:=2) nO.nd rfl (Or.inl rfl)) (bY (aE (i:=3) nO.nd rfl (Or.inl rfl)) jD)))
   (aq (aU (aA bN (ay cTiedTimes hr (by decide) rfl (aa (pv 0) (aa (ax av (pv 1) (aD gx (pv 2) ae) (λ_ _=>rfl)) (aa (pv 3) ag rfl) rfl) rfl)) ae (aK _)) (aq (aF jB)) aM)) (λ_=>rfl))
  (aq (aF jB))))),?_⟩
 have lz:(Z.map V.int).length=Z.length:=Ex _
 refine ⟨_,rfl,p,_,rfl,.inr (SqT.of ep),rfl,_,rfl,?_⟩
 rw[lz]
 by_cases z0:Z.length=0
 ·rw[decide_eq_true (by rw[z0];rfl)]
  exact aP (aP (q false H (az.refl _) ⟨λz=>(by cases z),λz=>absurd (GN.mp z0) z.1⟩))
 rw[decide_eq_false (by intro z;injection z with z;lia)]
 have zn:Z≠[]:=λz=>z0 (by rw[z];rfl)
 refine aQ ⟨_,rfl,p,Z,rfl,.inr (SqT.of ep),by lia,λa us ha mu nu lu =>?_⟩
 have ga:=ak ha (eZ w a (us.map V.int))
 have sl:=BK nu mu
 refine ⟨a,us.map V.int,rfl,ai,by rw[Ex];lia,?_⟩
 generalize upd H a (eZ w a (us.map V.int))=H1 at ga
 refine ⟨_,rfl,p,_,rfl,.inr (SqT.of (ga _ _ ep)),rfl,_,rfl,?_⟩
 rw[lz,Ex]
 by_cases nd:Z.Nodup
 case neg =>
  rw[decide_eq_false (by rw[wq,sl];exact nd)]
  exact aP (q false _ ga ⟨λz=>(by cases z),λz=>absurd z.2.1 nd⟩)
 refine B5 (wq.mpr (sl.mpr nd)) ?_
 have ep1:=ga _ _ ep
 have W1:=W.same ga
 refine ⟨_,rfl,p,_,rfl,.inr (SqT.of ep1),rfl,_,rfl,dE (λz =>?_) λz =>?_⟩
 ·rw[lz,decide_eq_true_iff] at z
  injection z with z
  obtain ⟨x,y,rfl⟩:∃x y,Z=[x,y]:=by
   match Z,z with
   | [x,y],_=>exact ⟨x,y,rfl⟩
  refine ⟨_,rfl,_,rfl,p,_,0,_,rfl,rfl,SqT.of ep1,rfl,_,rfl,p,_,1,_,rfl,rfl,SqT.of ep1,rfl,dy.mpr ⟨r,m,x,y,ts,rfl,W1,λH2 s2=>⟨_,_,rfl,rfl,?_⟩⟩⟩
  refine q _ _ (ga.trans s2) ?_
  rw[decide_eq_true_iff]
  constructor
  ·intro h
   exact ⟨zn,nd,λ_=>by show 2<=List.count (nrm x y) _;lia,λh=>absurd rfl h⟩
  ·intro h
   have:=h.2.2.1 rfl
   have:2<=(ts.map (·.2)).count (nrm x y):=this
   show (2:Int)<=_
   lia
 ·have n2:Z.length≠2:=λh=>z (by rw[lz,h];rfl)
  let W0:Nat->St->Hp->Prop:=λi σ H'=>(∃c2 c3,σ=[some (.ref r),some (.ref p),c2,c3])/\az H1 H'/\∀k,k<i->0<(ts.map (·.2)).count (nrm (prv Z k) (Z.getD k 0))
  refine ⟨_,rfl,p,rfl,.inr ⟨⟨_,SqT.of ep1⟩,w6 (xs:=Z.map V.int) W0 ⟨⟨_,_,rfl⟩,az.refl _,λk h=>absurd h (HZ k)⟩ (λi σ H' _ h=>SqT.of (h.2.1 _ _ ep1)) ?_ ?_⟩⟩
  ·rintro i x σ H2 tp hx ht ⟨⟨c2,c3,rfl⟩,s2,al⟩
   obtain ⟨v,ev,rfl⟩:=eD hx
   have hi:=(EJ.mp ev).1
   have g3:=ak ht (.tup [.int i,.int v])
   have s3:=s2.trans g3
   refine ⟨tp,_,rfl,SqT.of ai,rfl,_,_,rfl,_,_,rfl,rfl,?_⟩
   generalize upd H2 tp (.tup [.int i,.int v])=H3 at g3 s3
   refine ⟨_,rfl,_,rfl,_,rfl,_,_,rfl,rfl,p,_,_,_,rfl,rfl,SqT.of (s3 _ _ ep1),uV hi,_,rfl,dy.mpr ⟨r,m,prv Z i,v,ts,rfl,W1.same s3,λH4 s4=>⟨rfl,_,rfl,dE (λz =>?_) λz =>?_⟩⟩⟩
   ·have z:(ts.map (·.2)).count (nrm (prv Z i) v)=0:=by rw[decide_eq_true_iff] at z;injection z with z;lia
    refine q false _ (ga.trans (s3.trans s4)) ⟨λz=>(by cases z),λh =>?_⟩
    have:=h.2.2.2 n2 i hi
    rw[getD_at ev] at this
    lia
   ·refine ⟨⟨_,_,rfl⟩,s3.trans s4,λk hk =>?_⟩
    by_cases c:k=i
    ·subst c
     rw[getD_at ev]
     have:(ts.map (·.2)).count (nrm (prv Z k) v)≠0:=λh=>z (by rw[h];rfl)
     lia
    ·exact al k (by lia)
  ·rintro σ H2 ⟨⟨c2,c3,rfl⟩,s2,al⟩
   rw[lz] at al
   exact q true _ (ga.trans s2) ⟨λ_=>⟨zn,nd,λh=>absurd h n2,λ_=>al⟩,λ_=>rfl⟩
end
theorem IsR.inr {m:Nat}{ns:List (List Int)}(O:Ok m ns){Z:List Int}(h:IsR ns Z):∀v∈Z,0<=v/\v<m:=((qW O Z).mpr h).2.2.1
def Fmd (Z:List Int):Prop:=∃M,M∈Z/\(∀b∈Z,M<=b)/\frm Z M=Z
theorem BL {Z:List Int}{M:Int}(h1:M∈Z)(h2:∀b∈Z,M<=b):Fmd Z↔frm Z M=Z:=by
 constructor
 ·rintro ⟨N,n1,n2,e⟩
  have:M=N:=by
   have:=h2 N n1
   have:=n2 M h1
   lia
  rw[this];exact e
 ·exact λe=>⟨M,h1,h2,e⟩
abbrev Ci:Sp:=λvs H Q _=>∃(r p:Addr) (m:Nat) (ts:LAz) (Z:List Int),vs=[.ref r,.ref p]/\Wb H r m ts/\H p=some (.tup (Z.map V.int))/\Z.length<=200/\∀(b:Bool) H',az H H'->(b=true↔IsR (ts.map (·.2)) Z/\Fmd Z)->Q (.bl b) H'
@[irreducible] def BM:Sp:=Ci
theorem nP {vs:List V}{H:Hp}{Q:VK}{E:XK}:BM vs H Q E↔Ci vs H Q E:=by
 delta BM
 exact Ge
section
theorem nQ:aG ["web", "ring"] ["web", "ring"] (au fc):=⟨rfl,rfl,rfl,by decide +kernel,rfl,by decide +kernel,by decide +kernel⟩
theorem nR (F:Fun K "is_formed_ring" "is_formed_ring" fc f fd)(B:Blt mg)(cIsRing:Cal P w K mg base 3 "is_ring" ["web", "ring"] j5)(cRingForm:Cal P w K mg base 1 "ring_form" ["ring"] kP):aV P w K mg base CX0 4 f fd ["web", "ring"] BM:=by
 refine F.ok nQ (λvs H Q E h =>?_) (λcdv A outer s H vs Q E hr h =>?_)
 ·obtain ⟨_,_,_,_,_,rfl,_⟩:=nP.mp h
  rfl
 obtain ⟨r,p,m,ts,Z,rfl,W,ep,l5,q⟩:=nP.mp h
 refine ⟨_,(aq (aF (kg (ay cIsRing hr (by decide) rfl (aa (pv 0) (aa (pv 1) ag rfl) rfl)) (j9 (de (vt hr) (ay cRingForm hr (by decide) rfl (aa (pv 1) ag rfl)) (pv 1) (aK _)))))),?_⟩
 refine ⟨_,rfl,_,rfl,f9.mpr ⟨r,p,m,ts,Z,rfl,W,ep,l5,λb1 H1 s1 h1=>⟨_,rfl,?_⟩⟩⟩
 cases b1 with
 | false=>exact aQ (q false _ s1 ⟨λz=>(by cases z),λz=>absurd (h1.mpr z.1) EO⟩)
 | true =>
  have ir:=h1.mp rfl
  refine aP ⟨_,rfl,cG.mpr ⟨p,Z,rfl,s1 _ _ ep,ir.1,by lia,λz H2 M s2 hM mn e2 =>?_⟩⟩
  refine ⟨_,rfl,z,p,frm Z M,Z,rfl,rfl,SqT.of e2,SqT.of (s2 _ _ (s1 _ _ ep)),q _ _ (s1.trans s2) ?_⟩
  rw[decide_eq_true_iff,BL hM mn]
  exact ⟨λe=>⟨ir,e⟩,λe=>e.2⟩
end
def Tds (m:Nat)(ns:List (List Int))(S:List Int):Prop:=S≠[]/\isSet m S=true/\∀v∈S,1<tin ns S v
theorem pI {m:Nat}{S:List Int}(h:isSet m S=true):∀v∈S,0<=v/\v<m:=λv hv=>by
 unfold isSet at h
 rw[Fh,GI] at h
 have:=h.2 v hv
 unfold inR at this
 rw[Fh] at this
 exact ⟨of_decide_eq_true this.1,of_decide_eq_true this.2⟩
abbrev As:Sp:=λvs H Q _=>∃(r p:Addr) (m:Nat) (ts:LAz) (Z:List Int),vs=[.ref r,.ref p]/\Wb H r m ts/\m<=40/\H p=some (.tup (Z.map V.int))/\Z.length<=200/\∀(b:Bool) H',az H H'->(b=true↔Tds m (ts.map (·.2)) Z)->Q (.bl b) H'
@[irreducible] def wu:Sp:=As
theorem lh {vs:List V}{H:Hp}{Q:VK}{E:XK}:wu vs H Q E↔As vs H Q E:=by
 delta wu
 exact Ge
section
theorem lN:aG ["web", "places", "counts"] ["web", "places"] (au jf):=⟨rfl,rfl,rfl,by decide +kernel,rfl,by decide +kernel,by decide +kernel⟩
theorem fi:(["place", "counts"]:List Str).Nodup:=by decide +kernel
theorem tD (F:Fun K "is_tied_set" "is_tied_set" jf f fd)(B:Blt mg)(cTiesAmong:Cal P w K mg base 1 "ties_among" ["web", "places"] j3)(cIsSetOf:Cal P w K mg base 2 "is_set_of" ["web", "places"] wo):aV P w K mg base CX0 3 f fd ["web", "places"] wu:=by
 refine F.ok lN (λvs H Q E h =>?_) (λcdv A outer s H vs Q E hr h =>?_)
 ·obtain ⟨_,_,_,_,_,rfl,_⟩:=lh.mp h
  rfl
 obtain ⟨r,p,m,ts,Z,rfl,W,m4,ep,l5,q⟩:=lh.mp h
 refine ⟨_,(ah (aU (PW.pt (gm (aA bN (aI aO rfl B.b_len bW (aa (pv 1) ag rfl)) ae (aK _)) (fM (gn (eQ (ay cIsSetOf hr (by decide) rfl (aa (pv 0) (aa (pv 1) ag rfl) rfl))))))) (aq (aF jB)) aM)
  (ah (aB (i:=2) lN.nd rfl (Or.inr rfl) (ay cTiesAmong hr (by decide) rfl (aa (pv 0) (aa (pv 1) ag rfl) rfl)))
  (aq (aF (aI (mQ rfl) rfl B.b_all uF (aa (bc ["place", "counts"] [none,some 2] rfl (eR (pv 1)) rfl (λ_ _ _ _ _=>(aE (i:=0) fi rfl (Or.inl rfl))) (λ_ _ _ _ _=>cf) (λ_ _ _ _ _=>(de vb (ax (dP (K:=K)) (pv 1) (pv 0) (λ_ _=>rfl)) ae (aK _)))) ag rfl)))))),?_⟩
 have lz:(Z.map V.int).length=Z.length:=Ex _
 refine ⟨_,rfl,p,_,rfl,.inr (SqT.of ep),rfl,_,rfl,?_⟩
 rw[lz]
 by_cases z0:Z.length=0
 ·rw[decide_eq_true (by rw[z0];rfl)]
  exact aP (aP (q false H (az.refl _) ⟨λz=>(by cases z),λz=>absurd (GN.mp z0) z.1⟩))
 rw[decide_eq_false (by intro z;injection z with z;lia)]
 have zn:Z≠[]:=λz=>z0 (by rw[z];rfl)
 refine aQ ⟨_,rfl,_,rfl,lb.mpr ⟨r,p,m,ts,Z,rfl,W,ep,by lia,λH1 s1=>⟨_,rfl,?_⟩⟩⟩
 cases hs:isSet m Z with
 | false=>exact aP (q false _ s1 ⟨λz=>(by cases z),λz=>absurd (z.2.1.symm.trans hs) (by decide)⟩)
 | true =>
  have rg:=pI hs
  refine aQ ⟨_,rfl,_,rfl,eG.mpr ⟨r,p,m,ts,Z,rfl,W.same s1,m4,s1 _ _ ep,λU H2 s2 hU L2 =>?_⟩⟩
  obtain ⟨L,eL,lL,aL⟩:=L2
  have s12:=s1.trans s2
  refine ⟨_,rfl,p,rfl,⟨_,SqT.of (s12 _ _ ep)⟩,dI (xs:=Z.map V.int) (λi ys H'=>H'=H2/\ys=((Z.take i).map λv=>decide (1<tin (ts.map (·.2)) Z v)).map V.bl) ⟨rfl,rfl⟩ (by rw[lz];exact aW (by lia)) (λi ys H' _ h=>by rw[h.1];exact SqT.of (s12 _ _ ep)) ?_ ?_⟩
  ·rintro i x ys H3 hx _ ⟨rfl,rfl⟩ R1 R0 r1 r0
   obtain ⟨v,ev,rfl⟩:=eD hx
   obtain ⟨v0,v1⟩:=rg v (EH ev)
   obtain ⟨n,rfl⟩:∃n:Nat,v=n:=⟨v.toNat,by lia⟩
   refine aP ⟨_,rfl,_,rfl,U,_,n,_,rfl,rfl,SqL.of eL,uO (by lia),_,_,rfl,rfl,r1 _ _ ⟨rfl,?_⟩⟩
   rw[take_snoc ev,ER,aL n (by lia)]
   rfl
  ·rintro ys H3 _ ⟨rfl,rfl⟩ l hl
   rw[lz,FI]
   refine ⟨l,_,rfl,SqL.of ai,q _ _ (s12.trans (ak hl _)) ?_⟩
   rw[MA,GI]
   exact ⟨λh=>⟨zn,hs,λv hv=>of_decide_eq_true (h v hv)⟩,λh v hv=>decide_eq_true (h.2.2 v hv)⟩
end
structure GL (K:Ez)(H:Hp)(la:Addr)(wd:Str)(S:List Int)(a b:Int):Prop where
 at':∃pl sh,H la=some (.tup [.str wd,.ref pl,.ref sh])/\H pl=some (.tup (S.map V.int))/\Two K H sh a b
theorem GL.same {K:Ez}{H H':Hp}{la:Addr}{wd:Str}{S:List Int}{a b:Int}(h:GL K H la wd S a b)(s:az H H'):GL K H' la wd S a b:=by
 obtain ⟨pl,sh,e1,e2,e3⟩:=h.at'
 exact ⟨⟨pl,sh,s _ _ e1,s _ _ e2,e3.same s⟩⟩
def wx (m:Nat)(ns:List (List Int))(wd:Str)(S:List Int)(a b:Int):Prop:=(jh a b=true/\0<a)/\((wd = "ring" /\ IsR ns S/\Fmd S)\/(wd = "ties" /\ Tds m ns S))
theorem Ei:("ties" : Str) ≠ "ring" := by decide +kernel
@[irreducible] def qX (K:Ez):Sp:=λvs H Q _=>∃(r la:Addr) (m:Nat) (ts:LAz) (wd:Str) (S:List Int) (a b:Int),vs=[.ref r,.ref la]/\Wb H r m ts/\m<=40/\GL K H la wd S a b/\S.length<=200/\Wd a/\Wd b/\∀(c:Bool) H',az H H'->(c=true↔wx m (ts.map (·.2)) wd S a b)->Q (.bl c) H'
theorem ju {K:Ez}{vs:List V}{H:Hp}{Q:VK}{E:XK}:qX K vs H Q E↔∃(r la:Addr) (m:Nat) (ts:LAz) (wd:Str) (S:List Int) (a b:Int),vs=[.ref r,.ref la]/\Wb H r m ts/\m<=40/\GL K H la wd S a b/\S.length<=200/\Wd a/\Wd b/\∀(c:Bool) H',az H H'->(c=true↔wx m (ts.map (·.2)) wd S a b)->Q (.bl c) H':=by
 delta qX
 exact Ge
section
theorem yd:aG ["web", "layer"] ["web", "layer"] (au nz):=⟨rfl,rfl,rfl,by decide +kernel,rfl,by decide +kernel,by decide +kernel⟩
theorem ye {n0:Addr}(Z:Exs K mg n0)(F:Fun K "is_layer" "is_layer" nz f fd)(B:Blt mg)(cIsFormedRing:Cal P w K mg base 4 "is_formed_ring" ["web", "ring"] BM)(cIsTiedSet:Cal P w K mg base 3 "is_tied_set" ["web", "places"] wu)(cIsRatio:Cal P w K mg base 2 "is_ratio" ["thing"] (BA K))(cRatioLess:Cal P w K mg base 1 "ratio_less" ["one", "other"] (nJ K)):aV P w K mg base CX0 5 f fd ["web", "layer"] (qX K):=by
 refine F.ok yd (λvs H Q E h =>?_) (λcdv A outer s H vs Q E hr h =>?_)
 ·obtain ⟨_,_,_,_,_,_,_,_,rfl,_⟩:=ju.mp h
  rfl
 obtain ⟨r,la,m,ts,wd,S,a,b,rfl,W,m4,G,lS,wa,wb,q⟩:=ju.mp h
 refine ⟨_,(ah (aU (PW.pt (gm (gn (eQ (ay cIsRatio hr (by decide) rfl (aa (ax av (pv 1) ae (λ_ _=>rfl)) ag rfl)))) (fM (gn (eQ (ay cRatioLess hr (by decide) rfl (aa (l7 (v :=.ref n0) rfl Z.m0 rfl) (aa (ax av (pv 1) ae (λ_ _=>rfl)) ag rfl) rfl))))))) (aq (aF jB)) aM)
  (ah (aU (aA bN (ax av (pv 1) ae (λ_ _=>rfl)) fL (aK _)) (aq (aF (ay cIsFormedRing hr (by decide) rfl (aa (pv 0) (aa (ax av (pv 1) ae (λ_ _=>rfl)) ag rfl) rfl)))) aM)
  (aq (aF (kg (de bN (ax av (pv 1) ae (λ_ _=>rfl)) fL (aK _)) (j9 (ay cIsTiedSet hr (by decide) rfl (aa (pv 0) (aa (ax av (pv 1) ae (λ_ _=>rfl)) ag rfl) rfl)))))))),?_⟩
 obtain ⟨pl,sh,ea,ep,es⟩:=G.at'
 refine ⟨_,rfl,la,_,2,_,rfl,rfl,SqT.of ea,rfl,nI.mpr ⟨sh,a,b,rfl,es,_,rfl,?_⟩⟩
 cases lo:jh a b with
 | false=>exact aP (aP (q false _ (az.refl _) ⟨λz=>(by cases z),λz=>absurd (z.1.1.symm.trans lo) (by decide)⟩))
 | true =>
  refine aQ ⟨_,rfl,la,_,2,_,rfl,rfl,SqT.of ea,rfl,fY.mpr ⟨n0,sh,0,1,a,b,rfl,Z.l0 _,es,⟨Cg (by decide) (by decide),wd1,wa,wb⟩,_,rfl,?_⟩⟩
  by_cases a0:0<a
  case neg =>
   rw[decide_eq_false (by rw[JD,JS];exact a0)]
   exact aP (q false _ (az.refl _) ⟨λz=>(by cases z),λz=>absurd z.1.2 a0⟩)
  rw[decide_eq_true (by rw[JD,JS];exact a0)]
  refine aQ ⟨_,rfl,la,_,0,_,rfl,rfl,SqT.of ea,rfl,rfl,_,rfl,?_⟩
  by_cases c1:wd = "ring"
  ·rw[decide_eq_true (by rw[c1])]
   refine aP ⟨_,rfl,_,rfl,la,_,1,_,rfl,rfl,SqT.of ea,rfl,nP.mpr ⟨r,pl,m,ts,S,rfl,W,ep,lS,λb1 H1 s1 h1=>q b1 _ s1 ?_⟩⟩
   rw[h1]
   exact ⟨λh=>⟨⟨lo,a0⟩,.inl ⟨c1,h⟩⟩,λh=>h.2.elim (λz=>z.2) λz=>absurd (z.1.symm.trans c1) Ei⟩
  ·rw[decide_eq_false (λz=>c1 (V.str.inj z))]
   refine aQ ⟨_,rfl,la,_,0,_,rfl,rfl,SqT.of ea,rfl,rfl,_,rfl,?_⟩
   by_cases c2:wd = "ties"
   ·rw[decide_eq_true (by rw[c2])]
    refine aP ⟨_,rfl,_,rfl,la,_,1,_,rfl,rfl,SqT.of ea,rfl,lh.mpr ⟨r,pl,m,ts,S,rfl,W,m4,ep,lS,λb1 H1 s1 h1=>q b1 _ s1 ?_⟩⟩
    rw[h1]
    exact ⟨λh=>⟨⟨lo,a0⟩,.inr ⟨c2,h⟩⟩,λh=>h.2.elim (λz=>absurd z.1 c1) λz=>z.2⟩
   ·rw[decide_eq_false (λz=>c2 (V.str.inj z))]
    exact aQ (q false _ (az.refl _) ⟨λz=>(by cases z),λz=>z.2.elim (λy=>absurd y.1 c1) λy=>absurd y.1 c2⟩)
end
structure Ly where
 wd:Str
 S:List Int
 a:Int
 b:Int
def Ly.tie (y:Ly):Bool:=decide (y.wd = "ties")
def Ly.ok (m:Nat)(ns:List (List Int))(y:Ly):Prop:=wx m ns y.wd y.S y.a y.b
def tv (ns:List (List Int))(j:Nat)(y:Ly):Int×Int:=tkv y.tie (tin ns y.S) y.a y.b y.S j
def bv (ns:List (List Int))(y:Ly):Int×Int:=bnv y.tie ns y.S y.a y.b
def bG (l:List (Int×Int)):Int×Int:=l.foldl kU (0,1)
theorem iN (l:List (Int×Int))(q:Int×Int):bG (l++[q])=kU (bG l) q:=by
 unfold bG
 rw[List.foldl_append];rfl
structure Sz (y:Ly):Prop where
 len:y.S.length<=150
 sa:y.a.natAbs<2 ^ 200
 sb:y.b.natAbs<2 ^ 200
structure One (q:Int×Int):Prop where
 pos:0<q.2
 n1:q.1.natAbs<2 ^ 210
 n2:q.2.natAbs<2 ^ 200
structure Sum (n:Nat)(p:Int×Int):Prop where
 pos:0<p.2
 n1:p.1.natAbs<2 ^ (220*(n+1))
 n2:p.2.natAbs<2 ^ (200*(n+1))
theorem Sum.add {n:Nat}{p q:Int×Int}(h:Sum n p)(g:One q):Sum (n+1) (kU p q):=by
 have pp:=Jr h.pos g.pos
 refine ⟨fX pp,Fb (dW pp) ?_,Fb (dX pp) ?_⟩
 ·refine Fb (Int.natAbs_add_le _ _) ?_
  rw[Iv,Iv]
  have h1:=Ip h.n1 g.n2
  have h2:=Ip g.n1 h.n2
  rw[<- KG] at h1 h2
  have e1:2 ^ (220*(n+1)+200)<=2 ^ (220*(n+1)+219):=FG (by decide) (by lia)
  have e2:2 ^ (210+200*(n+1))<=2 ^ (220*(n+1)+219):=FG (by decide) (by lia)
  have e3:2 ^ (220*(n+1+1))=2*2 ^ (220*(n+1)+219):=by rw[show 220*(n+1+1)=(220*(n+1)+219)+1 by lia,Mz];lia
  lia
 ·rw[Iv]
  have h1:=Ip h.n2 g.n2
  rw[<- KG] at h1
  exact EL h1 (FG (by decide) (by lia))
theorem jw:∀(l:List (Int×Int)),(∀q∈l,One q)->Sum l.length (bG l):=λl=>by
 have go:∀(l:List (Int×Int)) (n:Nat) (p:Int×Int),Sum n p->(∀q∈l,One q)->Sum (n+l.length) (l.foldl kU p):=by
  intro l
  induction l with
  | nil=>intro n p h _;exact h
  | cons q l ih =>
   intro n p h g
   have:=ih (n+1) (kU p q) (h.add (g q E7)) λu hu=>g u (E8 _ hu)
   rw[Fg,show n+(l.length+1)=n+1+l.length by lia]
   exact this
 intro h
 have:=go l 0 (0,1) ⟨by decide,by decide +kernel,by decide +kernel⟩ h
 rw[JA] at this
 exact this
theorem Sum.w1 {n:Nat}{p:Int×Int}(h:Sum n p)(hn:n<=12):Wd p.1:=EL h.n1 (FG (by decide) (by lia))
theorem Sum.w2 {n:Nat}{p:Int×Int}(h:Sum n p)(hn:n<=12):Wd p.2:=EL h.n2 (FG (by decide) (by lia))
theorem One.w1 {q:Int×Int}(h:One q):Wd q.1:=EL h.n1 (FG (by decide) (by decide))
theorem One.w2 {q:Int×Int}(h:One q):Wd q.2:=EL h.n2 (FG (by decide) (by decide))
theorem Sum.wp {n:Nat}{p q:Int×Int}(h:Sum n p)(g:One q)(hn:n<=12):Wd (p.2*q.2):=by
 unfold Wd
 rw[Iv]
 have h1:=Ip h.n2 g.n2
 rw[<- KG] at h1
 exact EL h1 (FG (by decide) (by lia))
theorem pJ {a c:Int}(h:a.natAbs<2 ^ 200)(g:c.natAbs<2 ^ 10):(a*c).natAbs<2 ^ 210:=by
 rw[Iv,show (210:Nat)=200+10 by rfl,KG]
 exact Ip h g
theorem nU {ns:List (List Int)}{j:Nat}{y:Ly}(z:Sz y)(h0:0<y.b)(hn:ns.length<=200):One (tv ns j y):=by
 unfold tv tkv
 have tb:=uP ns y.S j
 split
 ·split
  ·exact ⟨fX h0,Fb (dW h0) (pJ z.sa (by omega)),Fb (dX h0) z.sb⟩
  ·exact ⟨h0,EL z.sa (FG (by decide) (by decide)),z.sb⟩
 ·exact ⟨by decide,by decide +kernel,by decide +kernel⟩
theorem uW {ns:List (List Int)}{y:Ly}(z:Sz y)(h0:0<y.b)(hn:ns.length<=200):One (bv ns y):=by
 unfold bv bnv
 have fl:=G4 (inn y.S) ns
 have zl:=z.len
 split
 ·exact ⟨fX h0,Fb (dW h0) (pJ z.sa (by omega)),Fb (dX h0) z.sb⟩
 ·exact ⟨h0,EL z.sa (FG (by decide) (by decide)),z.sb⟩
theorem Ly.ok.pos {m:Nat}{ns:List (List Int)}{y:Ly}(h:y.ok m ns):0<y.b:=by
 have:=h.1.1
 unfold jh at this
 rw[Fh] at this
 have:=of_decide_eq_true this.1
 omega
theorem Dj {K:Ez}{H:Hp}{la:Addr}{m:Nat}{ns:List (List Int)}{y:Ly}(G:GL K H la y.wd y.S y.a y.b)(O:Ok m ns)(z:Sz y)(h:y.ok m ns):Lyr K H la y.tie m y.S y.a y.b:=by
 have e:wrd y.tie=y.wd:=by
  unfold Ly.tie wrd
  rcases h.2 with c | c
  ·rw[c.1];decide +kernel
  ·rw[c.1];decide +kernel
 obtain ⟨pl,sh,e1,e2,e3⟩:=G.at'
 refine ⟨⟨pl,sh,by rw[e];exact e1,e2,e3⟩,?_,by have:=z.len;lia,Ly.ok.pos h,fD z.sa,fD z.sb,h.1.1⟩
 rcases h.2 with c | c
 ·exact IsR.inr O c.2.1
 ·exact pI c.2.2.1
structure Pap (K:Ez)(c:Bool)(H:Hp)(pa:Addr)(xs:List (Addr×Ly)):Prop where
 at':H pa=some (cond c (.lst (xs.map λx =>.ref x.1)) (.tup (xs.map λx =>.ref x.1)))
 gl:∀x∈xs,GL K H x.1 x.2.wd x.2.S x.2.a x.2.b
 sz:∀x∈xs,Sz x.2
 len:xs.length<=10
open Classical in
noncomputable def pbv (m:Nat)(ns:List (List Int))(ws:List Int)(ys:List Ly):Option (Int×Int) :=
 if (∀y∈ys,y.ok m ns)/\∀j,j<m->¬ ws.getD j 0*(bG (ys.map (tv ns j))).2<(bG (ys.map (tv ns j))).1 then some (bG (ys.map (bv ns))) else none
def Rat (K:Ez)(H:Hp)(v:V):Option (Int×Int)->Prop
 | none=>v = .non
 | some q=>∃z,v = .ref z/\Two K H z q.1 q.2
theorem Dk {K:Ez}{c:Bool}{H:Hp}{a:Addr}{xs:List V}(h:H a=some (cond c (.lst xs) (.tup xs))):SqB K c H a xs:=by
 cases c with
 | true=>exact SqL.of h
 | false=>exact SqT.of h
@[irreducible] def BN (K:Ez):Sp:=λvs H Q _=>∃(r wa pa:Addr) (m:Nat) (ts:LAz) (ws:List Int) (c:Bool) (xs:List (Addr×Ly)),vs=[.ref r,.ref wa,.ref pa]/\Wb H r m ts/\m<=40/\H wa=some (cond c (.lst (ws.map V.int)) (.tup (ws.map V.int)))/\ws.length=m/\(∀v∈ws,Wd v)/\Pap K c H pa xs/\∀(v:V) (H':Hp),az H H'->Rat K H' v (pbv m (ts.map (·.2)) ws (xs.map (·.2)))->Q v H'
theorem j6 {K:Ez}{vs:List V}{H:Hp}{Q:VK}{E:XK}:BN K vs H Q E↔∃(r wa pa:Addr) (m:Nat) (ts:LAz) (ws:List Int) (c:Bool) (xs:List (Addr×Ly)),vs=[.ref r,.ref wa,.ref pa]/\Wb H r m ts/\m<=40/\H wa=some (cond c (.lst (ws.map V.int)) (.tup (ws.map V.int)))/\ws.length=m/\(∀v∈ws,Wd v)/\Pap K c H pa xs/\∀(v:V) (H':Hp),az H H'->Rat K H' v (pbv m (ts.map (·.2)) ws (xs.map (·.2)))->Q v H':=by
 delta BN
 exact Ge
section
theorem cw:aG ["web", "weights", "paper", "bound", "taken", "layer"] ["web", "weights", "paper"] (au gQ):=⟨rfl,rfl,rfl,by decide +kernel,rfl,by decide +kernel,by decide +kernel⟩
theorem gf:(["one", "other"]:List Str).Nodup:=by decide +kernel
theorem fj:(["weight", "took"]:List Str).Nodup:=by decide +kernel
theorem qY {n0:Addr}(Z:Exs K mg n0)(F:Fun K "paper_bound" "paper_bound" gQ f fd)(B:Blt mg)(cRatioPlus:Cal P w K mg base 3 "ratio_plus" ["one", "other"] (kX K))(cIsLayer:Cal P w K mg base 5 "is_layer" ["web", "layer"] (qX K))(cLayerBound:Cal P w K mg base 4 "layer_bound" ["web", "layer"] (mq K))(cRatioLess:Cal P w K mg base 1 "ratio_less" ["one", "other"] (nJ K))(cRatioOfD:zo P w K mg base 2 "ratio_of" ["top", "bottom"] (l6 K) (.int 1))(cLayerTakes:Cal P w K mg base 4 "layer_takes" ["web", "layer"] (iK K)):aV P w K mg base CX0 6 f fd ["web", "weights", "paper"] (BN K):=by
 refine F.ok cw (λvs H Q E h =>?_) (λcdv A outer s H vs Q E hr h =>?_)
 ·obtain ⟨_,_,_,_,_,_,_,_,rfl,_⟩:=j6.mp h
  rfl
 obtain ⟨r,wa,pa,m,ts,ws,c,xs,rfl,W,m4,hw,lw,ww,PP,q⟩:=j6.mp h
 refine ⟨_,(ah (aB (i:=3) cw.nd rfl (Or.inl rfl) (l7 (v :=.ref n0) rfl Z.m0 rfl))
  (ah (aB (i:=4) cw.nd rfl (Or.inl rfl) (aD tW (cy (aa (l7 (v :=.ref n0) rfl Z.m0 rfl) ag rfl)) (ax av (pv 0) ae (λ_ _=>rfl))))
  (ah (bB Fp rfl (y3 (pv 2)) (aE (i:=5) cw.nd rfl (Or.inl rfl))
   (ah (aU (gn (eQ (ay cIsLayer hr (by decide) rfl (aa (pv 0) (aa (pv 5) ag rfl) rfl)))) (aq (aF cU)) aM)
   (ah (aB (i:=3) cw.nd rfl (Or.inl rfl) (ay cRatioPlus hr (by decide) rfl (aa (pv 3) (aa (ay cLayerBound hr (by decide) rfl (aa (pv 0) (aa (pv 5) ag rfl) rfl)) ag rfl) rfl)))
   (aq (cE (i:=4) ["one", "other"] [none,none] rfl cw.nd rfl rfl (qp true true rfl B.b_zip (aa (pv 4) (aa (ay cLayerTakes hr (by decide) rfl (aa (pv 0) (aa (pv 5) ag rfl) rfl)) ag rfl) rfl)) rfl (λ_ _ _ _ _=>(mW (K:=K) (i:=0) (j:=1) gf rfl rfl (Or.inl rfl) (Or.inl rfl))) (λ_ _ _ _ _=>cf) (λ_ _ _ _ _=>(ay cRatioPlus hr (by decide) rfl (aa (pv 0) (aa (pv 1) ag rfl) rfl))))))) (λ_=>rfl))
  (ah (aU (eQ (aI (zq rfl) rfl B.b_any C0 (aa (bc ["weight", "took"] [none,none] rfl (qp c true rfl B.b_zip (aa (pv 1) (aa (pv 4) ag rfl) rfl)) rfl (λ_ _ _ _ _=>(mW (K:=K) (i:=0) (j:=1) fj rfl rfl (Or.inl rfl) (Or.inl rfl))) (λ_ _ _ _ _=>cf) (λ_ _ _ _ _=>(ay cRatioLess hr (by decide) rfl (aa (qo cRatioOfD hr (by decide) rfl (aa (pv 0) ag rfl)) (aa (pv 1) ag rfl) rfl)))) ag rfl))) (aq (aF cU)) aM)
  (aq (aF (pv 3))))))),?_⟩
 obtain ⟨t,e1,e2⟩:=W.at'
 have tl:=Ff W.len (show 60<=200 by decide)
 have O:=nE W
 have nl:(ts.map (·.2)).length<=200:=by rw[Ex];exact tl
 have pl:=PP.len
 have hpa:H pa=some (.lst (xs.map λx =>.ref x.1))\/H pa=some (.tup (xs.map λx =>.ref x.1)):=by
  have:=PP.at'
  cases c with
  | true=>exact .inl this
  | false=>exact .inr this
 refine ⟨(by show 1<=ES;decide),λo ho =>?_⟩
 have go:=ak ho (.lst [.ref n0])
 refine ⟨_,rfl,r,_,0,_,rfl,rfl,SqT.of (go _ _ e1),rfl,o,_,_,rfl,rfl,ai,by lia,by lia,?_,λU hU =>?_⟩
 ·exact aW (by show 1*(m:Int).toNat<=5000;lia)
 have gU:=go.trans (ak hU (.lst (Fn (m:Int).toNat [V.ref n0]).flatten))
 have LU:fh K m (upd (upd H o (.lst [.ref n0])) U (.lst (Fn (m:Int).toNat [V.ref n0]).flatten)) U λj=>bG ((((xs.take 0).map (·.2))).map (tv (ts.map (·.2)) j)):=by
  refine ⟨Fn m (n0,0,1),?_,Ho,λu hu =>?_,λj u hu =>?_⟩
  ·rw[ai]
   congr 2
   rw[show (m:Int).toNat=m by lia]
   exact Df n0 m
  ·rw[Ic hu];exact Z.l0 _
  ·have:=Ic (EH hu)
   rw[this];rfl
 generalize upd (upd H o (.lst [.ref n0])) U (.lst (Fn (m:Int).toNat [V.ref n0]).flatten)=H1 at gU LU
 have cut:∀{i:Nat} {x:Addr×Ly},xs[i]? = some x->(xs.take (i+1)).map (·.2)=(xs.take i).map (·.2)++[x.2]:=λ{i x} e=>take_snoc e
 refine ⟨_,rfl,pa,rfl,vX (xs:=xs.map λx =>.ref x.1) (λi σ H'=>∃bo ta:Addr,(∃c5,σ=[some (.ref r),some (.ref wa),some (.ref pa),some (.ref bo),some (.ref ta),c5])/\az H H'/\Two K H' bo (bG (((xs.take i).map (·.2)).map (bv (ts.map (·.2))))).1 (bG (((xs.take i).map (·.2)).map (bv (ts.map (·.2))))).2/\fh K m H' ta (λj=>bG (((xs.take i).map (·.2)).map (tv (ts.map (·.2)) j)))/\∀y∈(xs.take i).map (·.2),y.ok m (ts.map (·.2))) (hpa.imp (gU _ _) (gU _ _)) ⟨n0,U,⟨_,rfl⟩,gU,Z.l0 _,LU,(λy h=>nomatch h)⟩ (λi σ H' h=>by obtain ⟨_,_,_,s',_⟩:=h;rcases hpa with z | z <;> rw[s' _ _ z,gU _ _ z]) ?_ ?_⟩
 ·rintro i x σ H2 hx ⟨bo,ta,⟨c5,rfl⟩,s2,tb,T2,al⟩
  obtain ⟨u,eu,rfl⟩:=dY hx
  have um:=EH eu
  have hi:=(EJ.mp eu).1
  have szu:=PP.sz u um
  have szl:=szu.len
  have G2:=(PP.gl u um).same s2
  refine ⟨_,rfl,_,rfl,ju.mpr ⟨r,u.1,m,ts,u.2.wd,u.2.S,u.2.a,u.2.b,rfl,W.same s2,m4,G2,by lia,(fD szu.sa).wd,(fD szu.sb).wd,λb1 H3 s3 h1=>⟨_,rfl,?_⟩⟩⟩
  have s23:=s2.trans s3
  cases b1 with
  | false =>
   refine aP (q _ _ s23 ?_)
   unfold pbv
   rw[if_neg λh=>EO (h1.mpr (h.1 u.2 (Gu um)))]
   rfl
  | true =>
   have uok:u.2.ok m (ts.map (·.2)):=h1.mp rfl
   have LY:=Dj ((PP.gl u um).same s23) O szu uok
   have ob:=uW (ns:=ts.map (·.2)) szu (Ly.ok.pos uok) nl
   have allP:∀y∈(xs.take i).map (·.2),Sz y/\0<y.b:=λy hy=>by
    obtain ⟨x,hx,rfl⟩:=E9.mp hy
    exact ⟨PP.sz x (Gp hx),Ly.ok.pos (al _ hy)⟩
   have lti:((xs.take i).map (·.2)).length=i:=by rw[Ex,Fz];lia
   have sb:=jw (((xs.take i).map (·.2)).map (bv (ts.map (·.2)))) λq hq=>by
    obtain ⟨y,hy,rfl⟩:=E9.mp hq
    exact uW (allP y hy).1 (allP y hy).2 nl
   rw[Ex,lti] at sb
   have st:∀j,Sum i (bG (((xs.take i).map (·.2)).map (tv (ts.map (·.2)) j))):=λj=>by
    have:=jw (((xs.take i).map (·.2)).map (tv (ts.map (·.2)) j)) λq hq=>by
     obtain ⟨y,hy,rfl⟩:=E9.mp hq
     exact nU (allP y hy).1 (allP y hy).2 nl
    rw[Ex,lti] at this
    exact this
   refine aQ ⟨_,rfl,_,rfl,_,rfl,hW.mpr ⟨r,u.1,m,ts,u.2.tie,u.2.S,u.2.a,u.2.b,rfl,W.same s23,LY,λz H4 s4 tz =>?_⟩⟩
   refine cH.mpr ⟨bo,z,_,_,_,_,rfl,(tb.same s3).same s4,tz,⟨sb.pos,ob.pos⟩,⟨sb.w1 (by lia),sb.w2 (by lia),ob.w1,ob.w2,sb.wp ob (by lia)⟩,λbo2 H5 s5 tb5 =>?_⟩
   have s25:=s23.trans (s4.trans s5)
   have s35:=s3.trans (s4.trans s5)
   refine ⟨_,rfl,_,rfl,_,rfl,cJ.mpr ⟨r,u.1,m,ts,u.2.tie,u.2.S,u.2.a,u.2.b,rfl,W.same s25,m4,LY.same (s4.trans s5),λVa H6 s6 hV TV =>?_⟩⟩
   obtain ⟨us,eT,lT,tT,vT⟩:=(T2.same s35).same s6
   obtain ⟨vs,eV,lV,tV,vV⟩:=TV
   have lmT:(us.map λu=>V.ref u.1).length=m:=by rw[Ex];exact lT
   have lmV:(vs.map λu=>V.ref u.1).length=m:=by rw[Ex];exact lV
   refine ⟨ta,Va,rfl,⟨_,SqL.of eT⟩,⟨_,SqL.of eV⟩,zy (xs:=us.map λu =>.ref u.1) (ys:=vs.map λu =>.ref u.1) m (by lia) (by lia) (.inl lmT.symm) (λk zs H'=>az H6 H'/\∃ys:List (Addr×Int×Int),zs=ys.map (λu =>.ref u.1)/\ys.length=k/\(∀u∈ys,Two K H' u.1 u.2.1 u.2.2)/\∀(j:Nat) w,ys[j]? = some w->w.2=bG ((((xs.take (i+1)).map (·.2))).map (tv (ts.map (·.2)) j))) (by decide) ⟨az.refl _,[],rfl,rfl,(λu h=>nomatch h),λj w h=>nomatch h⟩ (aW (by lia)) (λk zs H' _ h=>⟨SqL.of (h.1 _ _ eT),SqL.of (h.1 _ _ eV)⟩) ?_ ?_⟩
   ·rintro k x y zs H7 T' hx hy _ hT' ⟨s7,ys,rfl,lys,tys,vys⟩ R1 R0 r1 r0
    obtain ⟨p1,ep1,rfl⟩:=dY hx
    obtain ⟨p2,ep2,rfl⟩:=dY hy
    have g8:=s7.trans (ak hT' (.tup [.ref p1.1,.ref p2.1]))
    have v1:=vT k p1 ep1
    have v2:p2.2=tv (ts.map (·.2)) k u.2:=vV k p2 ep2
    have ot:One p2.2:=by rw[v2];exact nU szu (Ly.ok.pos uok) nl
    have su:Sum i p1.2:=by rw[v1];exact st k
    refine aP ⟨_,rfl,_,rfl,(cH (E:=E0)).mpr ⟨p1.1,p2.1,p1.2.1,p1.2.2,p2.2.1,p2.2.2,rfl,(tT p1 (EH ep1)).same g8,(tV p2 (EH ep2)).same g8,⟨su.pos,ot.pos⟩,⟨su.w1 (by lia),su.w2 (by lia),ot.w1,ot.w2,su.wp ot (by lia)⟩,λz H8 s8 tz=>r1 _ _ ⟨g8.trans s8,ys++[(z,kU p1.2 p2.2)],by rw[ER];rfl,by rw[EE,lys];rfl,λw hw =>?_,λj w hw =>?_⟩⟩⟩
    ·rcases EU.mp hw with h | h
     ·exact ((tys w h).same (ak hT' _)).same s8
     ·rw[ED.mp h];exact tz
    ·by_cases cj:j<ys.length
     ·rw[E1 cj] at hw
      exact vys j w hw
     ·have hl:=(EJ.mp hw).1
      rw[EE] at hl
      have hl:j<ys.length+1:=hl
      have ej:j=ys.length:=by lia
      subst ej
      rw[E6 (EI _),G1] at hw
      rw[<- EX hw,cut eu,ER,EZ,Jx,iN,lys]
      show kU p1.2 p2.2=_
      rw[v1,v2]
   ·rintro zs H7 _ ⟨s7,ys,rfl,lys,tys,vys⟩ rr hrr
    have g8:=ak hrr (.lst (ys.map λu=>V.ref u.1))
    refine ⟨bo2,rr,⟨_,rfl⟩,s25.trans (s6.trans (s7.trans g8)),?_,⟨ys,ai,lys,λu hu=>(tys u hu).same g8,vys⟩,λy hy =>?_⟩
    ·rw[cut eu,ER,EZ,Jx,iN]
     exact ((tb5.same s6).same s7).same g8
    ·rw[cut eu] at hy
     rcases EU.mp hy with h | h
     ·exact al y h
     ·rw[ED.mp h];exact uok
 rintro σ H2 ⟨bo,ta,⟨c5,rfl⟩,s2,tb,T2,al⟩
 rw[Ex,FI] at tb T2 al
 obtain ⟨us,eT,lT,tT,vT⟩:=T2
 have lmT:(us.map λu=>V.ref u.1).length=m:=by rw[Ex];exact lT
 have lmw:(ws.map V.int).length=m:=by rw[Ex];exact lw
 have sqw:∀{H':Hp},az H H'->SqB K c H' wa (ws.map V.int):=λs'=>Dk (s' _ _ hw)
 have st:∀j,Sum xs.length (bG ((xs.map (·.2)).map (tv (ts.map (·.2)) j))):=λj=>by
  have:=jw ((xs.map (·.2)).map (tv (ts.map (·.2)) j)) λq hq=>by
   obtain ⟨y,hy,rfl⟩:=E9.mp hq
   obtain ⟨x,hx,rfl⟩:=E9.mp hy
   exact nU (PP.sz x hx) (Ly.ok.pos (al _ hy)) nl
  rw[Ex,Ex] at this
  exact this
 refine ⟨_,rfl,_,rfl,wa,ta,rfl,⟨_,sqw s2⟩,⟨_,SqL.of eT⟩,zy (xs:=ws.map V.int) (ys:=us.map λu =>.ref u.1) m (by lia) (by lia) (.inl lmw.symm) (λk zs H'=>az H2 H'/\zs=((FP k).map λj=>decide (ws.getD j 0*(bG ((xs.map (·.2)).map (tv (ts.map (·.2)) j))).2<(bG ((xs.map (·.2)).map (tv (ts.map (·.2)) j))).1)).map V.bl) (by decide) ⟨az.refl _,rfl⟩ (aW (by lia)) (λk zs H' _ h=>⟨sqw (s2.trans h.1),SqL.of (h.1 _ _ eT)⟩) ?_ ?_⟩
 ·rintro k x y zs H3 T' hx hy _ hT' ⟨s3,rfl⟩ R1 R0 r1 r0
  obtain ⟨v,ev,rfl⟩:=eD hx
  obtain ⟨p1,ep1,rfl⟩:=dY hy
  have g4:=s3.trans (ak hT' (.tup [.int v,.ref p1.1]))
  have v1:p1.2=bG ((xs.map (·.2)).map (tv (ts.map (·.2)) k)):=vT k p1 ep1
  have su:Sum xs.length p1.2:=by rw[v1];exact st k
  refine aP ⟨_,rfl,(bV (E:=E0)).mpr ⟨v,1,rfl,by decide,wd1,λz H5 s5 tz =>?_⟩⟩
  rw[(kT _).1,(kT _).2] at tz
  refine ⟨_,rfl,(fY (E:=E0)).mpr ⟨z,p1.1,v,1,p1.2.1,p1.2.2,rfl,tz,((tT p1 (EH ep1)).same g4).same s5,⟨ww v (EH ev),wd1,su.w1 (by lia),su.w2 (by lia)⟩,r1 _ _ ⟨g4.trans s5,?_⟩⟩⟩
  rw[M5,ER,ER]
  congr 1
  show [V.bl (decide (v*p1.2.2<p1.2.1*1))]=[V.bl (decide (ws.getD k 0*(bG ((xs.map (·.2)).map (tv (ts.map (·.2)) k))).2<(bG ((xs.map (·.2)).map (tv (ts.map (·.2)) k))).1))]
  rw[<- v1,getD_at ev,JS]
 ·rintro zs H3 _ ⟨s3,rfl⟩ l hl
  have g4:=s3.trans (ak hl (.lst (((FP m).map λj=>decide (ws.getD j 0*(bG ((xs.map (·.2)).map (tv (ts.map (·.2)) j))).2<(bG ((xs.map (·.2)).map (tv (ts.map (·.2)) j))).1)).map V.bl)))
  refine ⟨l,_,rfl,SqL.of ai,_,rfl,dE (λz =>?_) λz =>?_⟩
  ·refine q _ _ (s2.trans g4) ?_
   rw[Ny,IS] at z
   obtain ⟨j,hj,hz⟩:=z
   unfold pbv
   rw[if_neg λh=>h.2 j (FJ.mp hj) (of_decide_eq_true hz)]
   rfl
  ·refine ⟨_,rfl,q _ _ (s2.trans g4) ?_⟩
   unfold pbv
   rw[if_pos ⟨al,λj hj h=>z (by rw[Ny,IS];exact ⟨j,FJ.mpr hj,decide_eq_true h⟩)⟩]
   exact ⟨bo,rfl,tb.same g4⟩
end
@[irreducible] def wz (K:Ez):Sp:=λvs H Q _=>∃(l:Addr) (us:List (Addr×Int×Int)),vs=[.ref l]/\H l=some (.lst (us.map λu =>.ref u.1))/\(∀u∈us,Two K H u.1 u.2.1 u.2.2)/\(∀u∈us,One u.2)/\us.length<=12/\∀(z:Addr) (H':Hp),az H H'->Two K H' z (bG (us.map (·.2))).1 (bG (us.map (·.2))).2->Q (.ref z) H'
theorem lj {K:Ez}{vs:List V}{H:Hp}{Q:VK}{E:XK}:wz K vs H Q E↔∃(l:Addr) (us:List (Addr×Int×Int)),vs=[.ref l]/\H l=some (.lst (us.map λu =>.ref u.1))/\(∀u∈us,Two K H u.1 u.2.1 u.2.2)/\(∀u∈us,One u.2)/\us.length<=12/\∀(z:Addr) (H':Hp),az H H'->Two K H' z (bG (us.map (·.2))).1 (bG (us.map (·.2))).2->Q (.ref z) H':=by
 delta wz
 exact Ge
section
theorem j7:aG ["ratios", "found", "one"] ["ratios"] (au qw):=⟨rfl,rfl,rfl,by decide +kernel,rfl,by decide +kernel,by decide +kernel⟩
theorem Au (F:Fun K "_law_total" "_law_total" qw f fd)(B:Blt mg)(cLPlus:Cal P w K mg base 3 "_law_plus" ["one", "other"] (kX K)):aV P w K mg base CX0 4 f fd ["ratios"] (wz K):=by
 refine F.ok j7 (λvs H Q E h =>?_) (λcdv A outer s H vs Q E hr h =>?_)
 ·obtain ⟨_,_,rfl,_⟩:=lj.mp h
  rfl
 obtain ⟨l,us,rfl,el,tu,ou,lu,q⟩:=lj.mp h
 refine ⟨_,(ah (aB (i:=1) j7.nd rfl (Or.inl rfl) (bw (aa ae (aa ae ag rfl) rfl)))
  (ah (bB Fp rfl (bp (pv 0)) (aE (i:=2) j7.nd rfl (Or.inl rfl))
   (aq (aB (i:=1) j7.nd rfl (Or.inl rfl) (ay cLPlus hr (by decide) rfl (aa (pv 1) (aa (pv 2) ag rfl) rfl)))) (λ_=>rfl))
  (aq (aF (pv 1))))),?_⟩
 refine ⟨(by show 2<=ES;decide),λz0 hz0 =>?_⟩
 have g1:=ak hz0 (.tup [.int 0,.int 1])
 have e1:Two K (upd H z0 (.tup [.int 0,.int 1])) z0 0 1:=SqT.of ai
 generalize upd H z0 (.tup [.int 0,.int 1])=H1 at g1 e1
 have lum:(us.map λu=>V.ref u.1).length=us.length:=Ex _
 let W0:Nat->St->Hp->Prop:=λi σ H'=>∃z:Addr,(∃c2,σ=[some (.ref l),some (.ref z),c2])/\az H H'/\Two K H' z (bG ((us.take i).map (·.2))).1 (bG ((us.take i).map (·.2))).2
 refine ⟨_,rfl,l,rfl,⟨_,SqL.of (g1 _ _ el)⟩,cM (xs:=us.map λu =>.ref u.1) W0 ⟨z0,⟨_,rfl⟩,g1,e1⟩ (λi σ H' _ h=>by obtain ⟨_,_,s',_⟩:=h;exact SqL.of (s' _ _ el)) ?_ ?_⟩
 ·rintro i x σ H2 hx ⟨z,⟨c2,rfl⟩,s2,t2⟩
  obtain ⟨u,eu,rfl⟩:=dY hx
  have um:=EH eu
  have hi:=(EJ.mp eu).1
  have su:=jw ((us.take i).map (·.2)) λq hq=>by
   obtain ⟨x,hx,rfl⟩:=E9.mp hq
   exact ou x (Gp hx)
  have ln:((us.take i).map (·.2)).length<=12:=by rw[Ex,Fz];lia
  have ot:=ou u um
  refine ⟨_,rfl,_,rfl,cH.mpr ⟨z,u.1,_,_,u.2.1,u.2.2,rfl,t2,(tu u um).same s2,⟨su.pos,ot.pos⟩,⟨su.w1 ln,su.w2 ln,ot.w1,ot.w2,su.wp ot ln⟩,λz3 H3 s3 t3=>⟨z3,⟨_,rfl⟩,s2.trans s3,?_⟩⟩⟩
  rw[take_snoc eu,iN]
  exact t3
 ·rintro σ H2 ⟨z,⟨c2,rfl⟩,s2,t2⟩
  rw[lum,FI] at t2
  exact ⟨_,rfl,q z _ s2 t2⟩
end
structure Gds (K:Ez)(H:Hp)(pa:Addr)(m:Nat)(xs:List (Addr×Ly)):Prop where
 pap:Pap K true H pa xs
 ly:∀x∈xs,Lyr K H x.1 x.2.tie m x.2.S x.2.a x.2.b
theorem Ej:(["place", "rows"]:List Str).Nodup:=by decide +kernel
theorem Ek:(["row", "place"]:List Str).Nodup:=by decide +kernel
@[irreducible] def BO (K:Ez):Sp:=λvs H Q _=>∃(r pa:Addr) (m:Nat) (ts:LAz) (xs:List (Addr×Ly)),vs=[.ref r,.ref pa]/\Wb H r m ts/\m<=40/\Gds K H pa m xs/\∀(U:Addr) (H':Hp),az H H'->H U=none->fh K m H' U (λj=>bG ((xs.map (·.2)).map (tv (ts.map (·.2)) j)))->Q (.ref U) H'
theorem nV {K:Ez}{vs:List V}{H:Hp}{Q:VK}{E:XK}:BO K vs H Q E↔∃(r pa:Addr) (m:Nat) (ts:LAz) (xs:List (Addr×Ly)),vs=[.ref r,.ref pa]/\Wb H r m ts/\m<=40/\Gds K H pa m xs/\∀(U:Addr) (H':Hp),az H H'->H U=none->fh K m H' U (λj=>bG ((xs.map (·.2)).map (tv (ts.map (·.2)) j)))->Q (.ref U) H':=by
 delta BO
 exact Ge
section
theorem i3:aG ["web", "paper", "rows"] ["web", "paper"] (au fT):=⟨rfl,rfl,rfl,by decide +kernel,rfl,by decide +kernel,by decide +kernel⟩
theorem fH:(["layer", "web"]:List Str).Nodup:=by decide +kernel
theorem oz (F:Fun K "_law_paper_takes" "_law_paper_takes" fT f fd)(B:Blt mg)(cLLayerTakes:Cal P w K mg base 3 "_law_layer_takes" ["web", "layer"] (iK K))(cLTotal:Cal P w K mg base 4 "_law_total" ["ratios"] (wz K)):aV P w K mg base CX0 5 f fd ["web", "paper"] (BO K):=by
 refine F.ok i3 (λvs H Q E h =>?_) (λcdv A outer s H vs Q E hr h =>?_)
 ·obtain ⟨_,_,_,_,_,rfl,_⟩:=nV.mp h
  rfl
 obtain ⟨r,pa,m,ts,xs,rfl,W,m4,GG,q⟩:=nV.mp h
 refine ⟨_,(ah (aB (i:=2) i3.nd rfl (Or.inr rfl) (bc ["layer", "web"] [none,some 0] rfl (bp (pv 1)) rfl (λ_ _ _ _ _=>(aE (i:=0) fH rfl (Or.inl rfl))) (λ_ _ _ _ _=>cf) (λ_ _ _ _ _=>(ay cLLayerTakes hr (by decide) rfl (aa (pv 1) (aa (pv 0) ag rfl) rfl)))))
  (aq (aF (yR ["place", "rows"] [none,some 2] rfl (aY rfl B.b_range (aa (ax av (pv 0) ae (λ_ _=>rfl)) ag rfl)) rfl (λ_ _ _ _=>(aE (i:=0) Ej rfl (Or.inr rfl))) (λ_ _ _ _=>cf) (λ_ _ _ _=>(ay cLTotal hr (by decide) rfl (aa (bc ["row", "place"] [none,some 0] rfl (zA (K:=K) (pv 1)) rfl (λ_ _ _ _ _=>(aE (i:=0) Ek rfl (Or.inl rfl))) (λ_ _ _ _ _=>cf) (λ_ _ _ _ _=>(ax (dP (K:=K)) (pv 0) (pv 1) (λ_ _=>rfl)))) ag rfl))))))),?_⟩
 obtain ⟨t,e1,e2⟩:=W.at'
 have tl:=Ff W.len (show 60<=200 by decide)
 have nl:(ts.map (·.2)).length<=200:=by rw[Ex];exact tl
 have ep:=GG.pap.at'
 have ep:H pa=some (.lst (xs.map λx =>.ref x.1)):=ep
 have pl:=GG.pap.len
 have lxm:(xs.map λx=>V.ref x.1).length=xs.length:=Ex _
 let W1:Nat->List V->Hp->Prop:=λi ys H'=>az H H'/\∃Us:List Addr,ys=Us.map V.ref/\Us.length=i/\∀(k:Nat) (U:Addr),Us[k]? = some U->∃x,xs[k]? = some x/\fh K m H' U λj=>tv (ts.map (·.2)) j x.2
 refine ⟨_,rfl,pa,rfl,⟨_,SqL.of ep⟩,bx (xs:=xs.map λx =>.ref x.1) W1 ⟨az.refl _,[],rfl,rfl,λk U h=>nomatch h⟩ (by rw[lxm];exact aW (by lia)) (λi ys H' _ h=>SqL.of (h.1 _ _ ep)) ?_ ?_⟩
 ·rintro i x ys H1 hx _ ⟨s1,Us,rfl,lU,al⟩ R1 R0 r1 r0
  obtain ⟨u,eu,rfl⟩:=dY hx
  have um:=EH eu
  refine aP ⟨_,rfl,_,rfl,(cJ (E:=E0)).mpr ⟨r,u.1,m,ts,u.2.tie,u.2.S,u.2.a,u.2.b,rfl,W.same s1,m4,(GG.ly u um).same s1,λU H2 s2 hU T2=>r1 _ _ ⟨s1.trans s2,Us++[U],by rw[ER];rfl,by rw[EE,lU];rfl,λk V' hV =>?_⟩⟩⟩
  by_cases ck:k<Us.length
  ·rw[E1 ck] at hV
   obtain ⟨x,ex,tx⟩:=al k V' hV
   exact ⟨x,ex,tx.same s2⟩
  ·have hl:=(EJ.mp hV).1
   rw[EE] at hl
   have hl:k<Us.length+1:=hl
   have ek:k=Us.length:=by lia
   subst ek
   rw[E6 (EI _),G1] at hV
   rw[<- EX hV]
   exact ⟨u,by rw[lU];exact eu,T2⟩
 rintro ys H1 _ ⟨s1,Us,rfl,lU,al⟩ rw' hrw
 rw[lxm] at lU
 have g2:=ak hrw (.lst (Us.map V.ref))
 have erw:upd H1 rw' (.lst (Us.map V.ref)) rw'=some (.lst (Us.map V.ref)):=ai
 have s2:=s1.trans g2
 have al2:∀(k:Nat) (U:Addr),Us[k]? = some U->∃x,xs[k]? = some x/\fh K m (upd H1 rw' (.lst (Us.map V.ref))) U λj=>tv (ts.map (·.2)) j x.2:=λk U h=>by
  obtain ⟨x,ex,tx⟩:=al k U h
  exact ⟨x,ex,tx.same g2⟩
 generalize upd H1 rw' (.lst (Us.map V.ref))=H2 at g2 erw s2 al2
 let W2:Nat->List V->Hp->Prop:=λi ys H'=>az H2 H'/\∃us:List (Addr×Int×Int),ys=us.map (λu =>.ref u.1)/\us.length=i/\(∀u∈us,Two K H' u.1 u.2.1 u.2.2)/\∀(j:Nat) w,us[j]? = some w->w.2=bG ((xs.map (·.2)).map (tv (ts.map (·.2)) j))
 refine ⟨_,rfl,r,_,0,_,rfl,rfl,SqT.of (s2 _ _ e1),rfl,(m:Int),rfl,by lia,by lia,bE W2 ⟨az.refl _,[],rfl,rfl,(λu h=>nomatch h),λj w h=>nomatch h⟩ (aW (by lia)) ?_ ?_⟩
 ·rintro i ys H3 hi _ ⟨s3,us,rfl,lus,tus,vus⟩ R1 R0 r1 r0
  have him:i<m:=by lia
  let W3:Nat->List V->Hp->Prop:=λk zs H'=>H'=H3/\∃ws:List (Addr×Int×Int),zs=ws.map (λu =>.ref u.1)/\(∀u∈ws,Two K H3 u.1 u.2.1 u.2.2)/\ws.map (·.2)=((xs.take k).map (·.2)).map (tv (ts.map (·.2)) i)
  refine aP ⟨_,rfl,rw',rfl,⟨_,SqL.of (s3 _ _ erw)⟩,bx (xs:=Us.map V.ref) W3 ⟨rfl,[],rfl,(λu h=>nomatch h),rfl⟩ (by rw[Ex];exact aW (by lia)) (λk zs H' _ h=>by rw[h.1];exact SqL.of (s3 _ _ erw)) ?_ ?_⟩
  ·rintro k x zs H4 hx _ ⟨rfl,ws,rfl,tws,ews⟩ R1' R0' r1' r0'
   rw[ET] at hx
   obtain ⟨U,eU,rfl⟩:=Hf.mp hx
   obtain ⟨x,ex,tx⟩:=al2 k U eU
   obtain ⟨vs,eV,lV,tV,vV⟩:=tx.same s3
   have ev:vs[i]? = some vs[i]:=EA (by lia)
   refine aP ⟨_,rfl,_,rfl,U,_,(0+(i:Int)),.ref vs[i].1,rfl,rfl,SqL.of eV,(by rw[G5];exact cC (by rw[ET,ev];rfl)),r1' _ _ ⟨rfl,ws++[vs[i]],by rw[ER];rfl,λu hu =>?_,?_⟩⟩
   ·rcases EU.mp hu with h | h
    ·exact tws u h
    ·rw[ED.mp h];exact tV _ (GJ _)
   ·rw[ER,ews,take_snoc ex,ER]
    congr 1
    show [vs[i].2]=[tv (ts.map (·.2)) i x.2]
    rw[vV i _ ev]
  ·rintro zs H4 _ ⟨rfl,ws,rfl,tws,ews⟩ l hl
   rw[Ex,lU,FI] at ews
   have g4:=ak hl (.lst (ws.map λu=>V.ref u.1))
   have lws:ws.length=xs.length:=by
    have:=congrArg List.length ews
    rw[Ex,Ex,Ex] at this
    exact this
   refine (lj (E:=E0)).mpr ⟨l,ws,rfl,ai,λu hu=>(tws u hu).same g4,λu hu =>?_,by lia,λz H5 s5 tz=>r1 _ _ ⟨(s3.trans g4).trans s5,us++[(z,bG (ws.map (·.2)))],by rw[ER];rfl,by rw[EE,lus];rfl,λu hu =>?_,λj w hw =>?_⟩⟩
   ·have hm:u.2∈ws.map (·.2):=Gu hu
    rw[ews] at hm
    obtain ⟨y,hy,e⟩:=E9.mp hm
    obtain ⟨x,hx,rfl⟩:=E9.mp hy
    rw[<- e]
    exact nU (GG.pap.sz x hx) (GG.ly x hx).pos nl
   ·rcases EU.mp hu with h | h
    ·exact ((tus u h).same g4).same s5
    ·rw[ED.mp h];exact tz
   ·by_cases cj:j<us.length
    ·rw[E1 cj] at hw
     exact vus j w hw
    ·have hl:=(EJ.mp hw).1
     rw[EE] at hl
     have hl:j<us.length+1:=hl
     have ej:j=us.length:=by lia
     subst ej
     rw[E6 (EI _),G1] at hw
     rw[<- EX hw,lus, <- ews]
 ·rintro ys H3 _ ⟨s3,us,rfl,lus,tus,vus⟩ U hU
  have g4:=ak hU (.lst (us.map λu=>V.ref u.1))
  exact q U _ (s2.trans (s3.trans g4)) ((s2.trans s3).free hU) ⟨us,ai,by lia,λu hu=>(tus u hu).same g4,vus⟩
end
def bO (ns:List (List Int))(k:Int):Int:=(ns.map λp=>(p.count k:Int)).sum
theorem Con.closed {ns:List (List Int)}{u v:Int}(h:Con ns u v){R:Int->Prop}(hu:R u)(hc:∀x y,R x->Adj ns x y->R y):R v:=by
 induction h with
 | refl=>exact hu
 | step _ a ih=>exact hc _ _ ih a
def gt (L:List Int)(a:Int):Int:=L.getD a.toNat 0
def has (m:Nat)(L:List Int)(c:Int):Nat:=(rgI m).countP λv=>decide (gt L v=c)
def oth (p:Int)(t:List Int):Int:=t.getD 0 0+t.getD 1 0-p
theorem wA (p o:Int):oth p (nrm p o)=o:=by
 unfold oth nrm mnI mxI
 show (if o<p then o else p)+(if o>p then o else p)-p=o
 split <;> split <;> lia
theorem qZ (p o:Int):p∈nrm p o:=by
 rcases Kg p o with c | c
 ·rw[bL c];simp
 ·rw[bK,bL c];simp
theorem BP {m:Nat}{ns:List (List Int)}(O:Ok m ns)(ps:List Int):Ok m (ns.filter (off ps)):=λp hp=>O p (Fo.mp hp).1
theorem BQ (a b:List (List Int))(k:Int):bO (a++b) k=bO a k+bO b k:=by unfold bO;rw[ER,M4]
theorem cnt_cons (t:List Int)(b:List (List Int))(k:Int):bO (t :: b) k=(t.count k:Int)+bO b k:=by unfold bO;rw[EZ,F2]
theorem uX (k:Int):∀b:List (List Int),0<=bO b k
 | []=>IE _
 | t :: b=>by rw[cnt_cons];have:=uX k b;lia
theorem q8 {t:List Int}{k:Int}(hk:k∈t):∀{b:List (List Int)},t∈b->1<=bO b k
 | s :: b,h=>by
  rw[cnt_cons]
  rcases EW.mp h with z | z
  ·subst z;have:=GR.mpr hk;have:=uX k b;lia
  ·have:=q8 hk z;lia
theorem wB {t u:List Int}{k:Int}(ne:t≠u)(ht:k∈t)(hu:k∈u):∀{b:List (List Int)},t∈b->u∈b->2<=bO b k
 | s :: b,h1,h2=>by
  rw[cnt_cons]
  rcases EW.mp h1 with z | z <;> rcases EW.mp h2 with y | y
  ·exact absurd (z.trans y.symm) ne
  ·subst z;have:=GR.mpr ht;have:=q8 hu y;lia
  ·subst y;have:=GR.mpr hu;have:=q8 ht z;lia
  ·have:=wB ne ht hu z y;lia
theorem tE {k:Int}:∀{b:List (List Int)},[k,k]∈b->2<=bO b k
 | s :: b,h=>by
  rw[cnt_cons]
  rcases EW.mp h with z | z
  ·subst z;have:([k,k]:List Int).count k=2:=by simp
   have:=uX k b;lia
  ·have:=tE z;lia
theorem Av (a b v:Int):(([a,b]:List Int).count v:Int)=(if a=v then 1 else 0)+if b=v then 1 else 0:=by
 rw[JW,JW,List.count_nil]
 by_cases h1:a=v <;> by_cases h2:b=v <;> simp[h1,h2]
def iU (E:List (List Int)):Prop:=∀pre t post,E=pre++t :: post->∀a b:Int,t=[a,b]->¬ Con pre a b
theorem Con.up {E E':List (List Int)}(h:∀t∈E,t∈E'){u v:Int}(c:Con E u v):Con E' u v:=by
 induction c with
 | refl=>exact .refl _
 | step _ a ih =>
  obtain ⟨p,hp,hx⟩:=iD.mp a
  exact .step ih (iD.mpr ⟨p,h p hp,hx⟩)
theorem ib {E:List (List Int)}(w:iU E)(q:List Int->Bool):iU (E.filter q):=λpre t post e a b et c=>by
 obtain ⟨l1,l2,e1,e2,e3⟩:=List.filter_eq_append_iff.mp e
 obtain ⟨m1,m2,e4,_,_,_⟩:=List.filter_eq_cons_iff.mp e3
 refine w (l1++m1) t m2 (by rw[e1,e4,HB]) a b et (c.up λs hs =>?_)
 rw[<- e2] at hs
 exact F6 _ (Fo.mp hs).1
theorem lp {m:Nat}:∀(n:Nat) (E:List (List Int)),E.length=n->Ok m E->iU E->∀u x:Int,∃v,Con E u v/\bO E v<=1/\(v≠x\/bO E v=0)
 | 0,E,hn,_,_,u,x=>by
  have:=GN.mp hn
  subst this
  exact ⟨u,.refl _,(by show (0:Int)<=1;decide),.inr rfl⟩
 | n+1,E,hn,O,w,u,x=>by
  rcases JE E with h | ⟨E',t,h⟩
  ·rw[h] at hn;cases hn
  rw[HP] at h
  subst h
  obtain ⟨a,b,rfl,a0,ab,bm⟩:=O t (by simp)
  have nc:=w E' [a,b] [] rfl a b rfl
  have O':Ok m E':=λt ht=>O t (F6 _ ht)
  have w':iU E':=λpre t post e a' b' et=>w pre t (post++[[a,b]]) (by rw[e];simp) a' b' et
  have ih:=lp n E' (by rw[EE] at hn;exact Nat.succ.inj hn) O' w'
  have up:∀{u v:Int},Con E' u v->Con (E'++[[a,b]]) u v:=λc=>c.up λs hs=>F6 _ hs
  have ne:a≠b:=λe=>nc (e ▸ .refl _)
  have tie:Con (E'++[[a,b]]) a b :=.one ((fU O).mpr ⟨a,b,E5 _ (by simp),ne,.inl ⟨rfl,rfl⟩⟩)
  have cnt:∀v,bO (E'++[[a,b]]) v=bO E' v+((if a=v then 1 else 0)+if b=v then 1 else 0):=λv=>by
   rw[BQ,cnt_cons,Av]
   show _=_+(_+_)
   have:bO [] v=0:=rfl
   lia
  obtain ⟨v1,c1,k1,d1⟩:=ih a a
  obtain ⟨v2,c2,k2,d2⟩:=ih b b
  have n1:b≠v1:=λe=>nc (e ▸ c1)
  have n2:a≠v2:=λe=>nc ((e ▸ c2).symm O')
  have l1:bO (E'++[[a,b]]) v1<=1:=by
   rw[cnt,if_neg n1]
   by_cases z:a=v1
   ·rw[if_pos z];rcases d1 with y | y
    ·exact absurd z.symm y
    ·lia
   ·rw[if_neg z];lia
  have l2:bO (E'++[[a,b]]) v2<=1:=by
   rw[cnt,if_neg n2]
   by_cases z:b=v2
   ·rw[if_pos z];rcases d2 with y | y
    ·exact absurd z.symm y
    ·lia
   ·rw[if_neg z];lia
  have n12:v1≠v2:=λe=>nc (c1.trans (e ▸ c2.symm O'))
  have two:Con (E'++[[a,b]]) u a->∃v,Con (E'++[[a,b]]) u v/\bO (E'++[[a,b]]) v<=1/\(v≠x\/bO (E'++[[a,b]]) v=0):=λc=>by
   by_cases z:v1=x
   ·exact ⟨v2,(c.trans tie).trans (up c2),l2,.inl λy=>n12 (z.trans y.symm)⟩
   ·exact ⟨v1,c.trans (up c1),l1,.inl z⟩
  by_cases ha:Con E' u a
  ·exact two (up ha)
  by_cases hb:Con E' u b
  ·exact two ((up hb).trans (tie.symm O))
  obtain ⟨v,c,k,d⟩:=ih u x
  have z1:a≠v:=λe=>ha (e ▸ c)
  have z2:b≠v:=λe=>hb (e ▸ c)
  have:bO (E'++[[a,b]]) v=bO E' v:=by rw[cnt,if_neg z1,if_neg z2];lia
  exact ⟨v,up c,by lia,by rw[this];exact d⟩
theorem stuck {m:Nat}{ns:List (List Int)}(O:Ok m ns)(w:iU ns){G:List Int}{u:Int}(hu:0<=u/\u<m)(hG:u∉G)(hc:∀v:Int,0<=v/\v<m->v∉G->2<=bO (ns.filter (off G)) v):False:=by
 have O':=BP O G
 obtain ⟨v,c,k,_⟩:=lp _ _ rfl O' (ib w (off G)) u u
 have rv:=c.rng O' hu
 have nv:v∉G:=c.closed (R:=λv=>v∉G) hG λx y _ a=>by
  obtain ⟨p,q,hp,ne,hx⟩:=(fU O').mp a
  have:=(Fo.mp hp).2
  unfold off at this
  have z:p∉G/\q∉G:=by simpa using this
  rcases hx with ⟨rfl,rfl⟩ | ⟨rfl,rfl⟩
  ·exact z.2
  ·exact z.1
 have:=hc v rv nv
 lia
theorem gg {p v:Int}:∀E:List (List Int),(E.count (nrm p v):Int)<=bO E p
 | []=>IE _
 | t :: E=>by
  have ih:=gg (p:=p) (v:=v) E
  rw[cnt_cons,JW]
  by_cases e:t=nrm p v
  ·have:=GR.mpr (show p∈t from e ▸ qZ p v)
   rw[if_pos (by simpa using e)];lia
  ·rw[if_neg (by simpa using e)];lia
theorem getD_inj {Z:List Int}(nd:Z.Nodup){i j:Nat}(hi:i<Z.length)(hj:j<Z.length)(e:Z.getD i 0=Z.getD j 0):i=j:=by
 rw[EF,EF,EA hi,EA hj] at e
 exact (Mp hi nd).mp (by rw[EA hi,EA hj];exact congrArg some e)
theorem getD_mem {Z:List Int}{i:Nat}(hi:i<Z.length):Z.getD i 0∈Z:=by
 rw[EF,EA hi];exact GJ _
theorem BR {G:List Int}{x y:Int}(hx:x∉G)(hy:y∉G):off G (nrm x y)=true:=by
 rcases Kg x y with c | c
 ·rw[bL c];unfold off;simp[hx,hy]
 ·rw[bK,bL c];unfold off;simp[hx,hy]
theorem Dl {m:Nat}{E:List (List Int)}(O:Ok m E)(w:iU E){Z:List Int}(h:IsL m E Z):False:=by
 obtain ⟨ne,nd,rg,h2,h3⟩:=h
 have hZ:∀v:Int,0<=v/\v<(m:Int)->(v∉(rgI m).filter (λv=>decide (v∉Z))↔v∈Z):=λv hv=>by
  rw[Fo,decide_eq_true_iff]
  constructor
  ·intro q
   exact FZ λn=>q ⟨vA.mpr hv,n⟩
  ·intro q z
   exact z.2 q
 generalize (rgI m).filter (λv=>decide (v∉Z))=G at hZ
 have hO:∀x∈Z,∀y∈Z,(E.filter (off G)).count (nrm x y)=E.count (nrm x y):=λx hx y hy=>by
  rw[Ms (BR ((hZ x (rg x hx)).mpr hx) ((hZ y (rg y hy)).mpr hy))]
 obtain ⟨u,hu⟩:=HV _ ne
 refine stuck O w (G:=G) (u:=u) (rg u hu) ((hZ u (rg u hu)).mpr hu) λv hv nv =>?_
 have vZ:=(hZ v hv).mp nv
 by_cases l3:Z.length<3
 ·have h2:=h2 l3
  match Z,ne,vZ,l3,h2,hO with
  | [x],_,vZ,_,h2,hO =>
   have:v=x:=by simpa using vZ
   subst this
   have h4:0<(E.filter (off G)).count (nrm v v):=by rw[hO v vZ v vZ];exact h2
   rw[bL (IE v)] at h4
   exact tE (GR.mp h4)
  | [x,y],_,vZ,_,h2,hO =>
   have h4:2<=(E.filter (off G)).count (nrm x y):=by rw[hO x (by simp) y (by simp)];exact h2
   have:v=x\/v=y:=by simpa using vZ
   rcases this with z | z <;> subst z
   ·have:=gg (p:=v) (v:=y) (E.filter (off G));lia
   ·rw[bK] at h4
    have:=gg (p:=v) (v:=x) (E.filter (off G));lia
  | _ :: _ :: _ :: _,_,_,l3,_,_=>simp at l3;lia
 ·have h3:=h3 l3
  obtain ⟨k,hk,ek⟩:=HE vZ
  have ek:Z.getD k 0=v:=by rw[EF,EA hk];exact ek
  have t1:=h3 k hk
  have t2:=h3 (if k+1=Z.length then 0 else k+1) (by split <;> lia)
  have p2:prv Z (if k+1=Z.length then 0 else k+1)=v:=by
   unfold prv
   rw[<- ek]
   congr 1
   split
   ·rw[if_pos rfl];lia
   ·rw[if_neg (by lia)];lia
  have hi:(if k=0 then Z.length-1 else k-1)<Z.length:=by split <;> lia
  have hj:(if k+1=Z.length then 0 else k+1)<Z.length:=by split <;> lia
  have dif:prv Z k≠Z.getD (if k+1=Z.length then 0 else k+1) 0:=λe=>by
   have:=getD_inj nd hi hj e
   split at this <;> split at this <;> lia
  have pm:prv Z k∈Z:=getD_mem hi
  have nm:Z.getD (if k+1=Z.length then 0 else k+1) 0∈Z:=getD_mem hj
  rw[p2] at t2
  generalize Z.getD (if k+1=Z.length then 0 else k+1) 0=n at t2 dif nm
  rw[ek,bK] at t1
  generalize prv Z k=p at t1 dif pm
  rw[<- hO v vZ p pm] at t1
  rw[<- hO v vZ n nm] at t2
  refine wB (t:=nrm v p) (u:=nrm v n) (λe=>dif ?_) (qZ _ _) (qZ _ _) (GR.mp t1) (GR.mp t2)
  have:=congrArg (oth v) e
  rwa [wA,wA] at this
theorem Aw {m:Nat}{ns:List (List Int)}(O:Ok m ns){Z:List Int}(h:Ring m ns Z):IsR ns Z:=by
 have zl:0<Z.length:=Gv.mpr h.ne
 refine (qW O Z).mp ⟨h.ne,h.nd,h.rng,λh3 =>?_,λ_ k hk =>?_⟩
 ·obtain ⟨x,y,e1,e2,c⟩:=h.few h3
  have f1:=uO (ws:=Z) zl
  have f2:=uV (Z:=Z) zl
  rw[show ((0:Nat):Int)=0 from rfl] at f1
  rw[show ((0:Nat):Int)-1 = -1 from rfl] at f2
  rw[e1] at f1
  rw[e2] at f2
  have ex:x=Z.getD 0 0:=V.int.inj (EX f1)
  have ey:y=prv Z 0:=V.int.inj (EX f2)
  rw[<- ex, <- ey];exact c
 ·have e:Z[k]? = some (Z.getD k 0):=by rw[EF,EA hk];rfl
  obtain ⟨x,e1,t⟩:=h.next e
  rw[uV hk] at e1
  have ex:prv Z k=x:=V.int.inj (EX e1)
  rw[ex]
  exact GR.mpr t
theorem Dm {Z:List Int}(h:Dh Z):Fmd Z:=by
 obtain ⟨n,nd,mn,lx⟩:=h
 cases Z with
 | nil=>exact absurd rfl n
 | cons a t =>
  refine ⟨a,E7,mn,?_⟩
  unfold frm
  have r:rot (a :: t) ((a :: t).idxOf a)=a :: t:=by
   rw[List.idxOf_cons_self]
   unfold rot;simp
  rw[r]
  unfold fV
  rw[if_neg (by rw[lx];exact EO)]
theorem Ax {m:Nat}{ns:List (List Int)}(O:Ok m ns){tie:Bool}{P:List Int}{s0 s1:Int}(h:LyG ns m tie P)(rg:∀v∈P,0<=v/\v<(m:Int))(lo:jh s0 s1=true)(a0:0<s0):wx m ns (wrd tie) P s0 s1:=by
 refine ⟨⟨lo,a0⟩,?_⟩
 cases tie with
 | true =>
  obtain ⟨n,pw,dg⟩:=h.ti rfl
  refine .inr ⟨rfl,n,?_,dg⟩
  unfold isSet rise
  rw[Fh,decide_eq_true_iff,GI]
  refine ⟨pw,λv hv =>?_⟩
  unfold inR
  rw[decide_eq_true (rg v hv).1,decide_eq_true (rg v hv).2];rfl
 | false =>
  obtain ⟨R,C⟩:=h.ri rfl
  exact .inl ⟨rfl,Aw O R,Dm C⟩
theorem bj {P:List Int}{a b:Int}:inn P [a,b]=true↔a∈P/\b∈P:=by
 show (decide (a∈P) && decide (b∈P))=true↔_
 rw[Fh,decide_eq_true_iff,decide_eq_true_iff]
theorem tF {v a b:Int}:off [v] [a,b]=true↔a≠v/\b≠v:=by
 show (!decide (a∈[v]) && !decide (b∈[v]))=true↔_
 rw[Fh,Mt,Mt,decide_eq_false_iff_not,decide_eq_false_iff_not,ED,ED]
theorem wC {m:Nat}(v:Int):∀{E:List (List Int)},Ok m E->(E.length:Int)<=(E.filter (off [v])).length+bO E v
 | [],_=>by show (0:Int)<=_;unfold bO;simp
 | t :: E,O=>by
  have ih:=wC v (E:=E) λp hp=>O p (E8 _ hp)
  obtain ⟨a,b,e,_⟩:=O t E7
  rw[cnt_cons]
  have nn:(0:Int)<=(t.count v:Int):=by lia
  by_cases c:off [v] t=true
  ·rw[Fw c,Fg,Fg]
   lia
  ·rw[Fs c,Fg]
   have:1<=t.count v:=by
    refine Gs.mpr ?_
    apply FZ
    intro n
    rw[e] at n c
    exact c (tF.mpr ⟨λz=>n (by rw[z];simp),λz=>n (by rw[z];simp)⟩)
   lia
theorem Dp {m:Nat}{E:List (List Int)}(O:Ok m E){L:List Int}(h:∀t∈E,inn L t=true){u v:Int}(c:Con E u v)(hu:u∈L):v∈L:=by
 induction c with
 | refl=>exact hu
 | step _ a ih =>
  obtain ⟨x,y,hp,_,h'⟩:=(fU O).mp a
  have:=bj.mp (h _ hp)
  rcases h' with ⟨_,rfl⟩ | ⟨_,rfl⟩
  ·exact this.2
  ·exact this.1
theorem Ay {m:Nat}:∀(k:Nat) (E:List (List Int)) (L:List Int),L.length=k->L≠[]->L.Nodup->Ok m E->iU E->(∀t∈E,inn L t=true)->E.length+1<=L.length:=by
 intro k
 induction k with
 | zero=>intro E L l n;exact absurd (GN.mp l) n
 | succ k ih =>
  intro E L l n nd O w hi
  obtain ⟨u,hu⟩:∃u,u∈L:=HV L n
  obtain ⟨v,cv,c1,_⟩:=lp _ E rfl O w u 0
  have hv:=Dp O hi cv hu
  have le:=List.length_erase_of_mem hv
  by_cases k0:L.erase v=[]
  ·have l0:(L.erase v).length=0:=by rw[k0];rfl
   have l1:L.length=1:=by lia
   have E0:E=[]:=by
    apply FZ
    intro z
    obtain ⟨t,ht⟩:=HV E z
    obtain ⟨a,b,e,_⟩:=O t ht
    have h2:=hi t ht
    rw[e] at h2
    obtain ⟨ha,hb⟩:=bj.mp h2
    obtain ⟨x,ex⟩:=List.length_eq_one_iff.mp l1
    rw[ex] at ha hb
    have eab:a=b:=(ED.mp ha).trans (ED.mp hb).symm
    obtain ⟨pre,post,es⟩:=List.append_of_mem ht
    exact w pre t post es a b e (by rw[eab];exact .refl _)
   rw[E0]
   show 0+1<=_
   lia
  ·have sub:=ih (E.filter (off [v])) (L.erase v) (by lia) k0 (nd.erase v) (λp hp=>O p (Fo.mp hp).1) (ib w _) λt ht=>by
    obtain ⟨h1,h2⟩:=Fo.mp ht
    obtain ⟨a,b,e,_⟩:=O t h1
    have h3:=hi t h1
    rw[e] at h2 h3 ⊢
    obtain ⟨ha,hb⟩:=bj.mp h3
    obtain ⟨na,nb⟩:=tF.mp h2
    exact bj.mpr ⟨(LB na).mpr ha,(LB nb).mpr hb⟩
   have lc:=wC v O
   lia
theorem sum_add {α:Type}(f g:α -> Int):∀G:List α,(G.map λv=>f v+g v).sum=(G.map f).sum+(G.map g).sum
 | []=>rfl
 | a :: G=>by rw[EZ,EZ,EZ,F2,F2,F2,sum_add f g G];lia
theorem cX {α:Type}(c:Int):∀G:List α,(G.map λ_=>c).sum=c*G.length
 | []=>by simp
 | a :: G=>by rw[EZ,F2,cX c G,Fg,Int.natCast_add,Int.mul_add];show _=_+c*1;lia
theorem q9 {α:Type}{f g:α -> Int}:∀{G:List α},(∀v∈G,f v<=g v)->(G.map f).sum<=(G.map g).sum
 | [],_=>IE _
 | a :: G,h=>by
  rw[EZ,EZ,F2,F2]
  have:=h a E7
  have:=q9 (G:=G) λv hv=>h v (E8 _ hv)
  lia
theorem ra {α:Type}(c:Int)(f:α -> Int):∀G:List α,(G.map λv=>c*f v).sum=c*(G.map f).sum
 | []=>by simp
 | a :: G=>by rw[EZ,EZ,F2,F2,ra c f G,Int.mul_add]
theorem tG {α β:Type}(f:α -> β -> Int)(ys:List β):∀G:List α,(G.map λv=>(ys.map λy=>f v y).sum).sum=(ys.map λy=>(G.map λv=>f v y).sum).sum
 | []=>by show (0:Int)=(ys.map λ_=>0).sum;rw[cX];simp
 | a :: G=>by rw[EZ,F2,tG f ys G, <- sum_add];rfl
theorem uY {f:Int->Int}(nn:∀v,0<=f v):∀G:List Int,0<=(G.map f).sum
 | []=>IE _
 | a :: G=>by rw[EZ,F2];have:=nn a;have:=uY nn G;lia
theorem iO {f:Int->Int}(nn:∀v,0<=f v){a:Int}:∀{G:List Int},a∈G->f a<=(G.map f).sum
 | b :: G,h=>by
  rw[EZ,F2]
  rcases EW.mp h with z | z
  ·rw[z];have:=uY nn G;lia
  ·have:=iO nn z;have:=nn b;lia
theorem wD {f:Int->Int}(nn:∀v,0<=f v){a c:Int}(n:a≠c):∀{G:List Int},a∈G->c∈G->f a+f c<=(G.map f).sum
 | b :: G,h,k=>by
  rw[EZ,F2]
  rcases EW.mp h with z | z
  ·rcases EW.mp k with y | y
   ·exact absurd (z.trans y.symm) n
   ·rw[z];have:=iO nn y;lia
  ·rcases EW.mp k with y | y
   ·rw[y];have:=iO nn z;lia
   ·have:=wD nn n z y;have:=nn b;lia
theorem nW (p:Int->Bool)(f:Int->Int):∀F:List Int,(F.map λj=>if p j=true then f j else 0).sum=((F.filter p).map f).sum
 | []=>rfl
 | a :: F=>by
  rw[EZ,F2,nW p f F]
  by_cases c:p a=true
  ·rw[if_pos c,Fw c,EZ,F2]
  ·rw[if_neg c,Fs c,G5]
theorem Az (t:List Int)(ns:List (List Int))(P:List Int)(v:Int):tin (t :: ns) P v=(if inn P t=true then ends v t else 0)+tin ns P v:=by
 unfold tin
 by_cases c:inn P t=true
 ·rw[if_pos c,Fw c,EZ,F2]
 ·rw[if_neg c,Fs c,G5]
theorem wF (t:List Int)(ns:List (List Int))(P G:List Int):(G.map (tin (t :: ns) P)).sum=(if inn P t=true then (G.map λv=>ends v t).sum else 0)+(G.map (tin ns P)).sum:=by
 rw[show (G.map (tin (t :: ns) P))=G.map λv=>(if inn P t=true then ends v t else 0)+tin ns P v from List.map_congr_left λv _=>Az t ns P v,sum_add]
 by_cases c:inn P t=true
 ·simp only[if_pos c]
 ·simp only[if_neg c]
  rw[cX];simp
theorem fI (v a b:Int):ends v [a,b]=(if a=v then 1 else 0)+if b=v then 1 else 0:=rfl
theorem wG {m:Nat}{S L G:List Int}(hS:∀a∈S,a∈L\/a∈G)(hL:∀a∈L,a∈S):∀{ns:List (List Int)},Ok m ns->((ns.filter (inn S)).length:Int)<=(ns.filter (inn L)).length+(G.map (tin ns S)).sum
 | [],_=>by
  have:(G.map (tin [] S)).sum=0:=by
   have:=cX (0:Int) G
   rw[JD] at this
   exact this
  rw[this];exact IE _
 | t :: ns,O=>by
  have ih:=wG (G:=G) hS hL (ns:=ns) λp hp=>O p (E8 _ hp)
  obtain ⟨a,b,e,_⟩:=O t E7
  rw[wF]
  have nn:=uY (λv=>iJ v t) G
  by_cases c:inn S t=true
  ·rw[if_pos c,Fw c,Fg]
   by_cases d:inn L t=true
   ·rw[Fw d,Fg];lia
   ·rw[Fs d]
    have one:1<=(G.map λv=>ends v t).sum:=by
     rw[e] at c d ⊢
     obtain ⟨ha,hb⟩:=bj.mp c
     have:a∈G\/b∈G:=by
      apply FZ
      intro z
      exact d (bj.mpr ⟨(hS a ha).resolve_right λy=>z (.inl y),(hS b hb).resolve_right λy=>z (.inr y)⟩)
     rcases this with h | h
     ·have g1:=iO (f:=λv=>ends v [a,b]) (λv=>iJ v _) h
      try dsimp only at g1
      rw[fI,if_pos rfl] at g1
      have:(0:Int)<=if b=a then 1 else 0:=by split <;> lia
      lia
     ·have g1:=iO (f:=λv=>ends v [a,b]) (λv=>iJ v _) h
      try dsimp only at g1
      rw[fI b a b,if_pos rfl] at g1
      have:(0:Int)<=if a=b then 1 else 0:=by split <;> lia
      lia
    lia
  ·rw[if_neg c,Fs c]
   have d:¬ inn L t=true:=λz=>c (by
    rw[e] at z ⊢
    have:=bj.mp z
    exact bj.mpr ⟨hL a this.1,hL b this.2⟩)
   rw[Fs d]
   lia
theorem tH {m:Nat}{S G:List Int}(hS:∀a∈S,a∈G):∀{ns:List (List Int)},Ok m ns->2*((ns.filter (inn S)).length:Int)<=(G.map (tin ns S)).sum
 | [],_=>by
  have:(G.map (tin [] S)).sum=0:=by
   have:=cX (0:Int) G
   rw[JD] at this
   exact this
  rw[this];exact IE _
 | t :: ns,O=>by
  have ih:=tH (G:=G) hS (ns:=ns) λp hp=>O p (E8 _ hp)
  obtain ⟨a,b,e,_⟩:=O t E7
  rw[wF]
  by_cases c:inn S t=true
  ·rw[if_pos c,Fw c,Fg]
   have two:2<=(G.map λv=>ends v t).sum:=by
    rw[e] at c ⊢
    obtain ⟨ha,hb⟩:=bj.mp c
    by_cases ab:a=b
    ·have g1:=iO (f:=λv=>ends v [a,b]) (λv=>iJ v _) (hS a ha)
     try dsimp only at g1
     rw[fI a a b,if_pos rfl,if_pos ab.symm] at g1
     lia
    ·have g1:=wD (f:=λv=>ends v [a,b]) (λv=>iJ v _) ab (hS a ha) (hS b hb)
     try dsimp only at g1
     rw[fI a a b,fI b a b,if_pos rfl,if_neg (Gn ab),if_neg ab,if_pos rfl] at g1
     lia
   lia
  ·rw[if_neg c,Fs c]
   lia
theorem pK (F:List Int):∀S:List Int,S.length=(S.filter λv=>decide (v∉F)).length+(S.filter λv=>decide (v∈F)).length
 | []=>rfl
 | a :: S=>by
  have ih:=pK F S
  by_cases c:a∈F
  ·rw[Fs (by rw[decide_eq_false (not_not_intro c)];exact EO),Fw (by exact decide_eq_true c),Fg,Fg]
   lia
  ·rw[Fw (by exact decide_eq_true c),Fs (by rw[decide_eq_false c];exact EO),Fg,Fg]
   lia
theorem yf {m:Nat}{ns:List (List Int)}(O:Ok m ns){S F:List Int}(nS:S.Nodup)(nF:F.Nodup)(n:S≠[])(dg:∀v∈S,1<tin ns S v)(w:iU (ns.filter (inn (S.filter λv=>decide (v∉F))))) :
  ((ns.filter (inn S)).length:Int)-S.length+1<=((F.filter λv=>decide (v∈S)).map λv=>tin ns S v-1).sum:=by
 have hS:∀a∈S,a∈(S.filter λv=>decide (v∉F))\/a∈F.filter λv=>decide (v∈S):=λa ha=>by
  by_cases c:a∈F
  ·exact .inr (Fo.mpr ⟨c,decide_eq_true ha⟩)
  ·exact .inl (Fo.mpr ⟨ha,decide_eq_true c⟩)
 have hL:∀a∈(S.filter λv=>decide (v∉F)),a∈S:=λa ha=>(Fo.mp ha).1
 have lG:(F.filter λv=>decide (v∈S)).length=(S.filter λv=>decide (v∈F)).length:=by
  refine List.Perm.length_eq ((IK (nF.filter _) (nS.filter _)).mpr λv =>?_)
  rw[Fo,Fo,decide_eq_true_iff,decide_eq_true_iff]
  exact And.comm
 have lS:S.length=(S.filter λv=>decide (v∉F)).length+(S.filter λv=>decide (v∈F)).length:=by
  exact pK F S
 have sub:((F.filter λv=>decide (v∈S)).map λv=>tin ns S v-1).sum=((F.filter λv=>decide (v∈S)).map (tin ns S)).sum + -1*(F.filter λv=>decide (v∈S)).length:=by
  rw[<- cX, <- sum_add];rfl
 rw[sub]
 by_cases c:(S.filter λv=>decide (v∉F))=[]
 ·have all:∀a∈S,a∈F.filter λv=>decide (v∈S):=λa ha=>(hS a ha).resolve_left λz=>by rw[c] at z;cases z
  have t2:=tH (ns:=ns) all O
  have e1:1<=(ns.filter (inn S)).length:=by
   apply FZ
   intro z
   obtain ⟨v,hv⟩:=HV S n
   have:=dg v hv
   unfold tin at this
   rw[GN.mp (by lia:(ns.filter (inn S)).length=0)] at this
   exact absurd this (by show ¬ (1:Int)<0;decide)
  rw[c] at lS
  have lS:S.length=0+(S.filter λv=>decide (v∈F)).length:=lS
  lia
 ·have t1:=wG (ns:=ns) hS hL O
  have fe:=Ay _ _ _ rfl c (nS.filter _) (λp hp=>O p (Fo.mp hp).1) w λt ht=>(Fo.mp ht).2
  lia
structure Rep (D n:Int)(p:Int×Int):Prop where
 pos:0<p.2
 eq:p.1*D=n*p.2
theorem Rep.low {D n x y:Int}(h:0<y)(e:x*D=n*y):Rep D n (rt x y,rb x y):=by
 have g:=gX (a:=x) h
 refine ⟨fX h,Int.eq_of_mul_eq_mul_left (Int.ne_of_gt g) ?_⟩
 show gc x y*(rt x y*D)=gc x y*(n*rb x y)
 rw[<- KI,zT,e,Int.mul_left_comm,zU]
theorem Rep.add {D n k:Int}{p q:Int×Int}(h:Rep D n p)(g:Rep D k q):Rep D (n+k) (kU p q):=by
 refine Rep.low (Jr h.pos g.pos) ?_
 rw[Int.add_mul,Int.add_mul,Hb p.1,h.eq,Hb q.1,g.eq,KI n,KI k,MC q.2 p.2]
theorem Rep.zero (D:Int):Rep D 0 (0,1):=⟨by decide,by rw[JD,JD]⟩
theorem wH {α:Type}{D:Int}{f:α -> Int}{g:α -> Int×Int}:∀(ys:List α),(∀y∈ys,Rep D (f y) (g y))->Rep D ((ys.map f).sum) (bG (ys.map g)):=by
 have go:∀(ys:List α) (n:Int) (p:Int×Int),Rep D n p->(∀y∈ys,Rep D (f y) (g y))->Rep D (n+(ys.map f).sum) ((ys.map g).foldl kU p):=by
  intro ys
  induction ys with
  | nil=>intro n p h _;show Rep D (n+0) p;rw[Lf];exact h
  | cons y ys ih =>
   intro n p h a
   rw[EZ,EZ,F2, <- Int.add_assoc]
   exact ih _ _ (h.add (a y E7)) λz hz=>a z (E8 _ hz)
 intro ys h
 have:=go ys 0 (0,1) (Rep.zero D) h
 rw[G5] at this
 exact this
theorem Rep.le {D n w:Int}{p:Int×Int}(h:Rep D n p)(d:0<D)(c:¬ w*p.2<p.1):n<=w*D:=by
 have h1:p.1*D<=w*p.2*D:=Ij (by omega) (Jb d)
 rw[h.eq,Hb] at h1
 exact Ka h1 h.pos
theorem Rep.ge {D n w:Int}{p:Int×Int}(h:Rep D n p)(d:0<D)(c:n<=w*D):p.1<=w*p.2:=by
 have h1:n*p.2<=w*D*p.2:=Ij c (Jb h.pos)
 rw[<- h.eq,Hb] at h1
 exact Ka h1 d
theorem AA:∀ys:List Ly,(∀y∈ys,0<y.b)->∃D:Int,0<D/\∀y∈ys,y.b ∣ D
 | [],_=>⟨1,by decide,λy h=>nomatch h⟩
 | y :: ys,h=>by
  obtain ⟨D,d,a⟩:=AA ys λz hz=>h z (E8 _ hz)
  refine ⟨y.b*D,Jr (h y E7) d,λz hz =>?_⟩
  rcases EW.mp hz with e | e
  ·rw[e];exact Int.dvd_mul_right _ _
  ·exact Int.dvd_trans (a z e) (Int.dvd_mul_left _ _)
structure Gy (m:Nat)(ns:List (List Int))(y:Ly):Prop where
 ly:LyG ns m y.tie y.S
 rg:∀v∈y.S,0<=v/\v<(m:Int)
 b0:0<y.b
 a0:0<y.a
def sh (D:Int)(y:Ly):Int:=y.a*(D/y.b)
theorem wI {D:Int}{y:Ly}(h:y.b ∣ D):y.a*D=sh D y*y.b:=by
 unfold sh
 rw[KI,Int.ediv_mul_cancel h]
theorem Em {D:Int}{y:Ly}(d:0<D)(a0:0<y.a)(b0:0<y.b):0<=sh D y:=Int.mul_nonneg (Jb a0) (Int.ediv_nonneg (Jb d) (Jb b0))
def Iy (ns:List (List Int))(D:Int)(y:Ly)(j:Int):Int:=if decide (j∈y.S)=true then (if y.tie=true then sh D y*(tin ns y.S j-1) else sh D y) else 0
def Jy (ns:List (List Int))(D:Int)(y:Ly):Int:=if y.tie=true then sh D y*((ns.filter (inn y.S)).length-(y.S.length:Int)+1) else sh D y
theorem En {ns:List (List Int)}{D:Int}{y:Ly}(h:y.b ∣ D)(b0:0<y.b)(j:Nat):Rep D (Iy ns D y j) (tv ns j y):=by
 unfold tv tkv Iy
 by_cases c:(j:Int)∈y.S
 ·rw[if_pos c,if_pos (decide_eq_true c)]
  by_cases d:y.tie=true
  ·rw[if_pos d,if_pos d]
   exact Rep.low b0 (by rw[Hb,wI h,Hb])
  ·rw[if_neg d,if_neg d]
   exact ⟨b0,wI h⟩
 ·rw[if_neg c,if_neg (λz=>c (of_decide_eq_true z))]
  exact Rep.zero D
theorem Eo {ns:List (List Int)}{D:Int}{y:Ly}(h:y.b ∣ D)(b0:0<y.b):Rep D (Jy ns D y) (bv ns y):=by
 unfold bv bnv Jy
 by_cases d:y.tie=true
 ·rw[if_pos d,if_pos d]
  exact Rep.low b0 (by rw[Hb,wI h,Hb])
 ·rw[if_neg d,if_neg d]
  exact ⟨b0,wI h⟩
theorem tI {m:Nat}{ns:List (List Int)}(O:Ok m ns){D:Int}{y:Ly}(d:0<D)(g:Gy m ns y){F:List Int}(nF:F.Nodup){L:List Int}(hL:∀v:Int,0<=v/\v<m->v∉F->v∈L)(w:iU (ns.filter (inn L))):Jy ns D y<=(F.map (Iy ns D y)).sum:=by
 have s0:=Em d g.a0 g.b0
 unfold Jy
 by_cases c:y.tie=true
 ·obtain ⟨n,pw,dg⟩:=g.ly.ti c
  have nS:y.S.Nodup:=pw.imp λh=>MD h
  rw[if_pos c,show (F.map (Iy ns D y)).sum=(F.map λj=>if decide (j∈y.S)=true then sh D y*(tin ns y.S j-1) else 0).sum by unfold Iy;simp only[if_pos c],nW,ra]
  refine Iq (yf O nS nF n dg ?_) s0
  have e:ns.filter (inn (y.S.filter λv=>decide (v∉F)))=(ns.filter (inn L)).filter (inn (y.S.filter λv=>decide (v∉F))):=by
   rw[List.filter_filter]
   refine List.filter_congr λt ht =>?_
   obtain ⟨a,b,e,_⟩:=O t ht
   rw[e]
   by_cases h:inn (y.S.filter λv=>decide (v∉F)) [a,b]=true
   ·obtain ⟨h1,h2⟩:=bj.mp h
    obtain ⟨p1,q1⟩:=Fo.mp h1
    obtain ⟨p2,q2⟩:=Fo.mp h2
    rw[h,bj.mpr ⟨hL a (g.rg a p1) (of_decide_eq_true q1),hL b (g.rg b p2) (of_decide_eq_true q2)⟩];rfl
   ·rw[G0.mpr h];rfl
  rw[e]
  exact ib w _
 ·obtain ⟨R,_⟩:=g.ly.ri (G0.mpr c)
  rw[if_neg c,show (F.map (Iy ns D y)).sum=(F.map λj=>if decide (j∈y.S)=true then sh D y else 0).sum by unfold Iy;simp only[if_neg c],nW,cX]
  have:∃v,v∈y.S/\v∈F:=by
   apply FZ
   intro z
   have nFS:∀v∈y.S,v∈L:=λv hv=>hL v (g.rg v hv) λh=>z ⟨v,hv,h⟩
   have O':Ok m (ns.filter (inn L)):=λp hp=>O p (Fo.mp hp).1
   have cnt:∀a b,a∈y.S->b∈y.S->(ns.filter (inn L)).count (nrm a b)=ns.count (nrm a b):=λa b ha hb=>by
    refine Ms ?_
    rcases Kg a b with h | h
    ·rw[bL h];exact bj.mpr ⟨nFS a ha,nFS b hb⟩
    ·rw[bK,bL h];exact bj.mpr ⟨nFS b hb,nFS a ha⟩
   have R':Ring m (ns.filter (inn L)) y.S:=by
    have tk:∀v∈y.S.take 1,v∈y.S:=λv hv=>Gp hv
    refine ⟨R.ne,R.nd,R.rng,jW λi x y' e1 e2 =>?_,λx y' e =>?_⟩
    ·have h1:=EH e1
     have h2:=EH e2
     have m1:x∈y.S:=(EU.mp h1).elim id (tk x)
     have m2:y'∈y.S:=(EU.mp h2).elim id (tk y')
     have:=mw R.ch i x y' e1 e2
     exact Gs.mp (by rw[cnt x y' m1 m2];exact Gs.mpr this)
    ·rw[cnt x y' (by rw[e];simp) (by rw[e];simp)]
     exact R.two x y' e
   exact Dl O' w ((qW O' y.S).mpr (Aw O' R'))
  obtain ⟨v,h1,h2⟩:=this
  have:0<(F.filter λj=>decide (j∈y.S)).length:=K2 (Fo.mpr ⟨h2,decide_eq_true h1⟩)
  have:=Iq (show (1:Int)<=((F.filter λj=>decide (j∈y.S)).length:Int) by lia) s0
  rw[JS] at this
  exact this
theorem dual {m:Nat}{ns:List (List Int)}(O:Ok m ns){ys:List Ly}(gy:∀y∈ys,Gy m ns y){ws:List Int}(hw:∀j:Nat,j<m->¬ ws.getD j 0*(bG (ys.map (tv ns j))).2<(bG (ys.map (tv ns j))).1)
  {F:List Int} (nF:F.Nodup) (rF:∀v∈F,0<=v/\v<(m:Int)) {L:List Int} (hL:∀v:Int,0<=v/\v<m->v∉F->v∈L) (w:iU (ns.filter (inn L))) :
  (bG (ys.map (bv ns))).1<=(F.map λj=>ws.getD j.toNat 0).sum*(bG (ys.map (bv ns))).2:=by
 obtain ⟨D,d,dv⟩:=AA ys λy hy=>(gy y hy).b0
 have rb:=wH ys λy hy=>Eo (ns:=ns) (dv y hy) (gy y hy).b0
 refine rb.ge d ?_
 have s1:(ys.map (Jy ns D)).sum<=(ys.map λy=>(F.map λj=>Iy ns D y j).sum).sum:=q9 λy hy=>tI O d (gy y hy) nF hL w
 rw[<- tG] at s1
 have s2:(F.map λj=>(ys.map λy=>Iy ns D y j).sum).sum<=(F.map λj=>D*ws.getD j.toNat 0).sum:=q9 λj hj=>by
  obtain ⟨j0,j1⟩:=rF j hj
  have ej:((j.toNat:Nat):Int)=j:=by lia
  have rt':=wH ys λy hy=>En (ns:=ns) (dv y hy) (gy y hy).b0 j.toNat
  have:=rt'.le d (hw j.toNat (by lia))
  rw[ej,MC] at this
  exact this
 rw[ra,MC] at s2
 exact Int.le_trans s1 s2
theorem yg {kvs:List (Key×V)}{k:Key}{v y:V}(h:cB kvs k=some y):(putK kvs k v).length=kvs.length:=by
 unfold putK
 by_cases c:(kvs.any λkv=>decide (kv.1=k))=true
 ·rw[if_pos c,Ex]
 ·exfalso
  unfold cB at h
  rw[List.find?_eq_none.mpr λx hx z=>c (IS.mpr ⟨x,hx,z⟩)] at h
  cases h
theorem Dn.set {H:Hp}{d:Addr}{P:List Int}{f:Int->Int}{n:Nat}{v x:Int}(h:Dn H d P f n)(hn:n<4000)(hv:v∈P):∃H',oo H d (.int v) (.int x) H'/\(∀b,b≠d->H' b=H b)/\Dn H' d P (λu=>if u=v then x else f u) n:=by
 obtain ⟨kvs,e,r,l⟩:=h
 refine ⟨_,oo.k (k :=.inl v) (v :=.int x) e (dD (by lia)),λb hb=>aH hb,_,ai,λu =>?_,?_⟩
 ·rw[rZ,r u]
  by_cases c:u=v
  ·subst c
   rw[if_pos rfl,if_pos hv]
   show _=some (V.int (if u=u then x else f u))
   rw[if_pos rfl]
  ·rw[if_neg (λz=>c (MU z))]
   show _=if u∈P then some (V.int (if u=v then x else f u)) else none
   rw[if_neg c]
 ·rw[yg (y :=.int (f v)) (by rw[r v,if_pos hv])];exact l
theorem Dq {m:Nat}{E:List (List Int)}(O:Ok m E){R:Int->Int}(h:∀a b,[a,b]∈E->R a=R b){u v:Int}(c:Con E u v):R u=R v:=by
 induction c with
 | refl=>rfl
 | step _ a ih =>
  obtain ⟨x,y,hp,_,h'⟩:=(fU O).mp a
  have:=h x y hp
  rcases h' with ⟨rfl,rfl⟩ | ⟨rfl,rfl⟩
  ·exact ih.trans this
  ·exact ih.trans this.symm
theorem yh {E:List (List Int)}(w:iU E){a b:Int}(h:¬ Con E a b):iU (E++[[a,b]]):=λpre t post e x y et c=>by
 rcases JE post with rfl | ⟨p',z,rfl⟩
 ·have e':E++[[a,b]]=pre++[t]:=e
  obtain ⟨e1,e2⟩:=MT e' rfl
  rw[et] at e2
  injection e2 with e3 _
  injection e3 with e4 e5
  injection e5 with e6 _
  rw[<- e1, <- e4, <- e6] at c
  exact h c
 ·have e':E++[[a,b]]=(pre++t :: p')++[z]:=by rw[e,HP,HB];rfl
  obtain ⟨e1,_⟩:=MT e' rfl
  exact w pre t p' e1 x y et c
abbrev Cj:Sp:=λvs H Q _=>∃(t l:Addr) (m:Nat) (ts:LAz) (L:List Int),vs=[.ref t,.ref l]/\H t=some (.tup (ts.map λu =>.ref u.1))/\(∀u∈ts,H u.1=some (.tup (u.2.map V.int)))/\Ok m (ts.map (·.2))/\ts.length<=200/\H l=some (.lst (L.map V.int))/\L.length<=200/\∀(b:Bool) H',az H H'->(b=true->iU ((ts.map (·.2)).filter (inn L)))->Q (.bl b) H'
@[irreducible] def BS:Sp:=Cj
theorem nX {vs:List V}{H:Hp}{Q:VK}{E:XK}:BS vs H Q E↔Cj vs H Q E:=by
 delta BS
 exact Ge
section
theorem cY:aG ["ties", "left", "roots", "place", "one", "other", "low", "high"] ["ties", "left"] (au jU):=⟨rfl,rfl,rfl,by decide +kernel,rfl,by decide +kernel,by decide +kernel⟩
theorem yi (F:Fun K "_law_is_wood" "_law_is_wood" jU f fd)(B:Blt mg):aV P w K mg base CX0 1 f fd ["ties", "left"] BS:=by
 refine F.ok cY (λvs H Q E h =>?_) (λcdv A outer s H vs Q E hr h =>?_)
 ·obtain ⟨_,_,_,_,_,rfl,_⟩:=nX.mp h
  rfl
 obtain ⟨t,l,m,ts,L,rfl,et,tu,O,tl,el,lL,q⟩:=nX.mp h
 have hu:(ku CX0 P w K mg base ["ties", "left", "roots", "place", "one", "other", "low", "high"] "_law_is_wood" (au jU) f cdv A outer s H E).nox.A.units+1<cLine:=oJ hr
 refine ⟨_,(ah (aB (i:=2) cY.nd rfl (Or.inl rfl) sg)
  (ah (bB Fp rfl (bp (pv 1)) (aE (i:=3) cY.nd rfl (Or.inl rfl))
   (aq (iA hu (pv 2) (pv 3) (pv 3) rfl)) (λ_=>rfl))
  (ah (bB Fp rfl (eR (pv 0)) (mC rfl (bY (aE (i:=4) cY.nd rfl (Or.inl rfl)) (bY (aE (i:=5) cY.nd rfl (Or.inl rfl)) jD)))
   (aq (aU (PW.pt (cK (dJ (gG hu (pv 4) (pv 2))) (bX (dJ (gG hu (pv 5) (pv 2)))))) (ah (yy (i:=6) (j:=7) rfl cY.nd rfl rfl (by decide) rfl rfl (aa (eC hu (pv 2) (pv 4) (λ_ _=>rfl)) (aa (eC hu (pv 2) (pv 5) (λ_ _=>rfl)) ag rfl) rfl) rfl)
    (ah (aU (aA bN (pv 6) (pv 7) (aK _)) (aq (aF jB)) aM)
    (aq (bB Fp rfl (bp (pv 1)) (aE (i:=3) cY.nd rfl (Or.inl rfl))
     (aq (aU (aA bN (eC hu (pv 2) (pv 3) (λ_ _=>rfl)) (pv 7) (aK _)) (aq (iA hu (pv 2) (pv 3) (pv 6) rfl)) aM)) (λ_=>rfl))))) aM)) (λ_=>rfl))
  (aq (aF jB))))),?_⟩
 have lum:(ts.map λu=>V.ref u.1).length=ts.length:=Ex _
 have lim:(L.map V.int).length=L.length:=Ex _
 refine λd hd =>?_
 have s1:=ak hd (.dK [])
 have D1:Dn (upd H d (.dK [])) d (L.take 0) (λv=>v) 0:=⟨[],ai,λv=>rfl,EI _⟩
 generalize upd H d (.dK [])=H1 at s1 D1
 let W0:Nat->St->Hp->Prop:=λi σ H'=>(∃c3,σ=[some (.ref t),some (.ref l),some (.ref d),c3,none,none,none,none])/\az H H'/\Dn H' d (L.take i) (λv=>v) i
 refine ⟨_,rfl,l,rfl,⟨_,SqL.of (s1 _ _ el)⟩,cM (xs:=L.map V.int) W0 ⟨⟨_,rfl⟩,s1,D1⟩ (λi σ H' _ h=>SqL.of (h.2.1 _ _ el)) ?_ ?_⟩
 ·rintro i x σ H2 hx ⟨⟨c3,rfl⟩,s2,D2⟩
  obtain ⟨v,ev,rfl⟩:=eD hx
  have hi:=(EJ.mp ev).1
  obtain ⟨H3,dp,ho,hD⟩:=D2.put (v:=v) (x:=v) (by lia)
  refine ⟨_,rfl,_,rfl,_,rfl,d,H3,rfl,dp,⟨_,rfl⟩,az.off s2 hd ho,hD _ _ (λu =>?_) λu=>by split <;> (first | rfl | (rename_i z;exact z))⟩
  rw[FW,ev,EU]
  constructor
  ·rintro (z | z)
   ·exact .inr z
   ·exact .inl (by simpa using z)
  ·rintro (z | z)
   ·exact .inr (by rw[z];simp)
   ·exact .inl z
 rintro σ H2 ⟨⟨c3,rfl⟩,s2,D2⟩
 rw[lim,FI] at D2
 let W1:Nat->St->Hp->Prop:=λi σ H'=>(∃c3 c4 c5 c6 c7,σ=[some (.ref t),some (.ref l),some (.ref d),c3,c4,c5,c6,c7])/\az H H'/\∃R:Int->Int,Dn H' d L R L.length/\(∀a b,[a,b]∈((ts.take i).map (·.2)).filter (inn L)->R a=R b)/\iU (((ts.take i).map (·.2)).filter (inn L))
 refine ⟨_,rfl,t,rfl,⟨_,SqT.of (s2 _ _ et)⟩,jE (xs:=ts.map λu =>.ref u.1) W1 ⟨⟨_,_,_,_,_,rfl⟩,s2,λv=>v,D2,(λa b h=>nomatch h),λpre t' post e=>by cases pre <;> cases e⟩ (λi σ H' _ h=>SqT.of (h.2.1 _ _ et)) ?_ ?_⟩
 ·rintro i x σ H3 hx ⟨⟨c3,c4,c5,c6,c7,rfl⟩,s3,R,D3,eqR,w3⟩
  obtain ⟨u,eu,rfl⟩:=dY hx
  have um:=EH eu
  obtain ⟨a,b,ab,a0,ab',bm⟩:=O u.2 (Gu um)
  have eu3:=s3 _ _ (tu u um)
  have O':Ok m (((ts.take i).map (·.2)).filter (inn L)):=λp hp=>by
   obtain ⟨y,hy,rfl⟩:=E9.mp (Fo.mp hp).1
   exact O _ (Gu (Gp hy))
  have tk:((ts.take (i+1)).map (·.2)).filter (inn L)=((ts.take i).map (·.2)).filter (inn L)++if a∈L/\b∈L then [[a,b]] else []:=by
   rw[take_snoc eu,Hu]
   congr 1
   by_cases c:a∈L/\b∈L
   ·rw[if_pos c,Fw (by rw[ab];exact bj.mpr c),ab];rfl
   ·rw[if_neg c,Fs (by rw[ab];exact λz=>c (bj.mp z))];rfl
  rw[ab] at eu3
  have no:¬ (a∈L/\b∈L)->((∀x y,[x,y]∈((ts.take (i+1)).map (·.2)).filter (inn L)->R x=R y)/\iU (((ts.take (i+1)).map (·.2)).filter (inn L))):=λc=>by
   rw[tk,if_neg c,FQ];exact ⟨eqR,w3⟩
  refine ⟨u.1,_,rfl,SqT.of eu3,rfl,_,_,rfl,_,_,rfl,rfl,?_⟩
  refine ⟨_,rfl,_,rfl,d,_,rfl,D3.get a,_,rfl,?_⟩
  by_cases ca:a∈L
  case neg =>
   rw[if_neg ca]
   exact aQ (aQ ⟨⟨_,_,_,_,_,rfl⟩,s3,R,D3,(no λz=>ca z.1).1,(no λz=>ca z.1).2⟩)
  rw[if_pos ca]
  refine aP ⟨_,rfl,_,rfl,d,_,rfl,D3.get b,_,rfl,?_⟩
  by_cases cb:b∈L
  case neg =>
   rw[if_neg cb]
   exact aQ ⟨⟨_,_,_,_,_,rfl⟩,s3,R,D3,(no λz=>cb z.2).1,(no λz=>cb z.2).2⟩
  rw[if_pos cb]
  have ga:=D3.get a
  have gb:=D3.get b
  rw[if_pos ca] at ga
  rw[if_pos cb] at gb
  refine aP ⟨_,rfl,_,rfl,d,_,rfl,ga,_,rfl,_,rfl,d,_,rfl,gb,_,_,rfl,?_⟩
  refine ⟨_,rfl,_,rfl,rfl,_,rfl,?_⟩
  by_cases eab:R a=R b
  ·rw[decide_eq_true (by rw[eab])]
   exact aP (q false _ s3 λz=>Bool.noConfusion z)
  rw[decide_eq_false (λz=>eab (V.int.inj z))]
  let W2:Nat->St->Hp->Prop:=λk σ H'=>(∃c3,σ=[some (.ref t),some (.ref l),some (.ref d),c3,some (.int a),some (.int b),some (.int (R a)),some (.int (R b))])/\az H H'/\∃R':Int->Int,Dn H' d L R' L.length/\(∀v∈L.take k,R' v=if R v=R b then R a else R v)/\∀v∈L,R' v=R v\/(R v=R b/\R' v=R a)
  refine aQ ⟨_,rfl,l,rfl,⟨_,SqL.of (s3 _ _ el)⟩,cM (xs:=L.map V.int) W2 ⟨⟨_,rfl⟩,s3,R,D3,(λv h=>nomatch h),λv _ =>.inl rfl⟩ (λk σ H' _ h=>SqL.of (h.2.1 _ _ el)) ?_ ?_⟩
  ·rintro k x σ H4 hx ⟨⟨c3,rfl⟩,s4,R',D4,dn,ol⟩
   obtain ⟨v,ev,rfl⟩:=eD hx
   have vm:=EH ev
   have gv:=D4.get v
   rw[if_pos vm] at gv
   have tk1:∀u,u∈L.take (k+1)↔u∈L.take k\/u=v:=λu=>by
    rw[FW,ev,EU];simp
   refine ⟨_,rfl,_,rfl,d,_,rfl,gv,_,rfl,rfl,_,rfl,?_⟩
   by_cases c:R' v=R b
   ·rw[decide_eq_true (by rw[c])]
    obtain ⟨H5,dp,ho,hD⟩:=D4.set (v:=v) (x:=R a) (by lia) vm
    refine aP ⟨_,rfl,_,rfl,_,rfl,d,H5,rfl,dp,⟨_,rfl⟩,az.off s4 hd ho,_,hD,λu hu =>?_,λu hu =>?_⟩
    ·by_cases uv:u=v
     ·rw[if_pos uv]
      have h1:=ol v vm
      rw[uv]
      rcases h1 with h1 | h1
      ·rw[<- h1,if_pos c]
      ·exact absurd (h1.2.symm.trans c) eab
     ·rw[if_neg uv]
      exact dn u (((tk1 u).mp hu).resolve_right uv)
    ·by_cases uv:u=v
     ·rw[if_pos uv]
      rcases ol v vm with h1 | h1
      ·exact .inr ⟨by rw[uv, <- h1];exact c,rfl⟩
      ·exact absurd (h1.2.symm.trans c) eab
     ·rw[if_neg uv]
      exact ol u hu
   ·rw[decide_eq_false (λz=>c (V.int.inj z))]
    refine aQ ⟨⟨_,rfl⟩,s4,R',D4,λu hu =>?_,ol⟩
    rcases (tk1 u).mp hu with h | h
    ·exact dn u h
    ·rw[h]
     rcases ol v vm with h1 | h1
     ·rw[h1,if_neg (by rw[<- h1];exact c)]
     ·rw[if_pos h1.1];exact h1.2
  ·rintro σ H4 ⟨⟨c3,rfl⟩,s4,R',D4,dn,ol⟩
   rw[lim,FI] at dn
   refine ⟨⟨_,_,_,_,_,rfl⟩,s4,R',D4,λx y hxy =>?_,?_⟩
   ·have inL:x∈L/\y∈L:=bj.mp (Fo.mp hxy).2
    rw[tk,if_pos ⟨ca,cb⟩,EU] at hxy
    rw[dn x inL.1,dn y inL.2]
    rcases hxy with h | h
    ·rw[eqR x y h]
    ·rw[ED] at h
     injection h with h1 h2
     injection h2 with h3 _
     rw[h1,h3,if_pos rfl]
     split <;> rfl
   ·rw[tk,if_pos ⟨ca,cb⟩]
    exact yh w3 λc=>eab (Dq O' eqR c)
 ·rintro σ H3 ⟨⟨c3,c4,c5,c6,c7,rfl⟩,s3,R,D3,eqR,w3⟩
  rw[lum,FI] at w3
  exact q true _ s3 λ_=>w3
end
abbrev AB:Sp:=λvs H Q _=>∃(r p:Addr) (m:Nat) (ts:LAz) (F:List Int),vs=[.ref r,.ref p]/\Wb H r m ts/\m<=40/\H p=some (.tup (F.map V.int))/\∀(b:Bool) H',az H H'->(b=true->∃L:List Int,(∀v:Int,0<=v/\v<m->v∉F->v∈L)/\iU ((ts.map (·.2)).filter (inn L)))->Q (.bl b) H'
@[irreducible] def wJ:Sp:=AB
theorem lq {vs:List V}{H:Hp}{Q:VK}{E:XK}:wJ vs H Q E↔AB vs H Q E:=by
 delta wJ
 exact Ge
section
theorem yj:aG ["web", "places"] ["web", "places"] (au nB):=⟨rfl,rfl,rfl,by decide +kernel,rfl,by decide +kernel,by decide +kernel⟩
theorem gh:(["place", "places"]:List Str).Nodup:=by decide +kernel
theorem yk (F:Fun K "_law_clears" "_law_clears" nB f fd)(B:Blt mg)(cLIsWood:Cal P w K mg base 1 "_law_is_wood" ["ties", "left"] BS):aV P w K mg base CX0 2 f fd ["web", "places"] wJ:=by
 refine F.ok yj (λvs H Q E h =>?_) (λcdv A outer s H vs Q E hr h =>?_)
 ·obtain ⟨_,_,_,_,_,rfl,_⟩:=lq.mp h
  rfl
 obtain ⟨r,p,m,ts,F,rfl,W,m4,ep,q⟩:=lq.mp h
 refine ⟨_,(aq (aF (ay cLIsWood hr (by decide) rfl (aa (ax av (pv 0) ae (λ_ _=>rfl)) (aa (bc ["place", "places"] [none,some 1] rfl (aY rfl B.b_range (aa (ax av (pv 0) ae (λ_ _=>rfl)) ag rfl)) rfl (λ_ _ _ _ _=>(aE (i:=0) gh rfl (Or.inl rfl))) (λ_ _ _ _ _=>(dO (aA (iq (K:=K)) (pv 0) (pv 1) rfl))) (λ_ _ _ _ _=>(pv 0))) ag rfl) rfl)))),?_⟩
 obtain ⟨t,e1,e2⟩:=W.at'
 let W0:Nat->List V->Hp->Prop:=λi ys H'=>H'=H/\∃ws:List Int,ys=ws.map V.int/\ws.length<=i/\∀v:Int,0<=v/\v<i->v∉F->v∈ws
 refine ⟨_,rfl,r,_,1,_,rfl,rfl,SqT.of e1,rfl,_,rfl,r,_,0,_,rfl,rfl,SqT.of e1,rfl,(m:Int),rfl,by lia,by lia,bE W0 ⟨rfl,[],rfl,EI _,λv h _=>by lia⟩ (aW (by lia)) ?_ ?_⟩
 ·rintro i ys H8 hi _ ⟨rfl,ws,rfl,lw,aw⟩ R1 R0 r1 r0
  refine ⟨_,rfl,_,rfl,p,_,rfl,.inr (SqT.of ep),rfl,bM F,_,rfl,?_⟩
  show if (!inV (.int (0+(i:Int))) (F.map V.int))=true then _ else _
  rw[sq,G5]
  by_cases c:(i:Int)∈F
  ·rw[decide_eq_true c]
   refine aQ (r0 _ ⟨rfl,ws,rfl,by lia,λv hv nf =>?_⟩)
   by_cases e:v=i
   ·rw[e] at nf;exact absurd c nf
   ·exact aw v (by lia) nf
  ·rw[decide_eq_false c]
   refine aP ⟨_,rfl,r1 _ _ ⟨rfl,ws++[(i:Int)],by rw[ER];rfl,by rw[EE];show _+1<=_;lia,λv hv nf =>?_⟩⟩
   by_cases e:v=i
   ·rw[e];simp
   ·exact F6 _ (aw v (by lia) nf)
 rintro ys H8 _ ⟨rfl,ws,rfl,lw,aw⟩ l hl
 have g8:=ak hl (.lst (ws.map V.int))
 exact nX.mpr ⟨t,l,m,ts,ws,rfl,g8 _ _ e2,λu hu=>g8 _ _ (W.tup u hu),nE W,Ff W.len (by decide),ai,by lia,λb H' s' h=>q b _ (g8.trans s') λz=>⟨ws,λv hv=>aw v (by lia),h z⟩⟩
end
theorem _root_.List.Pairwise.fJ {l:List Int}{n:Nat}(h:l.Pairwise (· < ·))(r:∀v∈l,0<=v/\v<(n:Int)):l.length<=n:=fC (h.imp λh=>MD h) r
theorem tJ (i:Nat)(h:i<=7):2 ^ i<=128:=Ff (FG (by decide) h) (by decide)
abbrev AD:Sp:=λvs H Q _=>∃m:Nat,vs=[.int m]/\m<=7/\∀(U:Addr) (us:LAz) (H':Hp),az H H'->H' U=some (.lst (us.map λu =>.ref u.1))->Tus H' us->(∀u∈us,u.2.Pairwise (· < ·)/\∀v∈u.2,0<=v/\v<(m:Int))->us.length<=128->Q (.ref U) H'
@[irreducible] def wK:Sp:=AD
theorem lr {vs:List V}{H:Hp}{Q:VK}{E:XK}:wK vs H Q E↔AD vs H Q E:=by
 delta wK
 exact Ge
section
theorem gi:aG ["many", "found", "place"] ["many"] (au kK):=⟨rfl,rfl,rfl,by decide +kernel,rfl,by decide +kernel,by decide +kernel⟩
theorem gj:(["some", "place"]:List Str).Nodup:=by decide +kernel
theorem uZ (F:Fun K "_law_all_sets" "_law_all_sets" kK f fd)(B:Blt mg):aV P w K mg base CX0 1 f fd ["many"] wK:=by
 refine F.ok gi (λvs H Q E h =>?_) (λcdv A outer s H vs Q E hr h =>?_)
 ·obtain ⟨_,rfl,_⟩:=lr.mp h
  rfl
 obtain ⟨m,rfl,m7,q⟩:=lr.mp h
 refine ⟨_,(ah (aB (i:=1) gi.nd rfl (Or.inl rfl) (cy (aa (bw ag) ag rfl)))
  (ah (bB Fp rfl (aY rfl B.b_range (aa (pv 0) ag rfl)) (aE (i:=2) gi.nd rfl (Or.inr rfl))
   (aq (aB (i:=1) gi.nd rfl (Or.inl rfl) (aD p9 (pv 1) (bc ["some", "place"] [none,some 2] rfl (bp (pv 1)) rfl (λ_ _ _ _ _=>(aE (i:=0) gj rfl (Or.inl rfl))) (λ_ _ _ _ _=>cf) (λ_ _ _ _ _=>(aD ni (pv 0) (bw (aa (pv 1) ag rfl)))))))) (λ_=>rfl))
  (aq (aF (pv 1))))),?_⟩
 refine ⟨(by show 0<=ES;decide),λo0 ho0 =>?_⟩
 have g0:=ak ho0 (.tup [])
 have e0:upd H o0 (.tup []) o0=some (.tup (([]:List Int).map V.int)):=ai
 generalize upd H o0 (.tup [])=H0 at g0 e0
 refine ⟨(by show 1<=ES;decide),λU0 hU0 =>?_⟩
 have g1:=ak hU0 (.lst [.ref o0])
 have e1:upd H0 U0 (.lst [.ref o0]) U0=some (.lst ([(o0,([]:List Int))].map λu =>.ref u.1)):=ai
 generalize upd H0 U0 (.lst [.ref o0])=H1 at g1 e1
 have s1:=g0.trans g1
 have t1:Tus H1 [(o0,([]:List Int))]:=λu hu=>by rw[ED.mp hu];exact g1 _ _ e0
 let W1:Nat->St->Hp->Prop:=λi σ H'=>∃(U:Addr) (us:LAz) (c2:Option V),σ=[some (.int m),some (.ref U),c2]/\az H H'/\H' U=some (.lst (us.map λu =>.ref u.1))/\Tus H' us/\us.length=2 ^ i/\∀u∈us,u.2.Pairwise (· < ·)/\∀v∈u.2,0<=v/\v<(i:Int)
 refine ⟨_,rfl,(m:Int),rfl,by lia,by lia,cV W1 ⟨U0,_,_,rfl,s1,e1,t1,rfl,λu hu=>by rw[ED.mp hu];exact ⟨.nil,λv h=>nomatch h⟩⟩ ?_ ?_⟩
 ·rintro i σ H2 hi ⟨U,us,c2,rfl,s2,eU,tu,lu,pu⟩
  have lim:=tJ i (by lia)
  have lum:(us.map λu=>V.ref u.1).length=us.length:=Ex _
  rw[G5]
  let W2:Nat->List V->Hp->Prop:=λk ys H'=>az H2 H'/\∃ws:LAz,ys=ws.map (λu =>.ref u.1)/\Tus H' ws/\ws.length=k/\∀u∈ws,u.2.Pairwise (· < ·)/\∀v∈u.2,0<=v/\v<((i+1:Nat):Int)
  refine ⟨_,rfl,_,rfl,U,rfl,⟨_,SqL.of eU⟩,bx (xs:=us.map λu =>.ref u.1) W2 ⟨az.refl _,[],rfl,(λu h=>nomatch h),rfl,λu h=>nomatch h⟩ (by rw[lum];exact aW (by lia)) (λk ys H' _ h=>SqL.of (h.1 _ _ eU)) ?_ ?_⟩
  ·rintro k x ys H3 hx _ ⟨s3,ws,rfl,tw,lw,pw⟩ R1 R0 r1 r0
   obtain ⟨u,eu,rfl⟩:=dY hx
   have um:=EH eu
   obtain ⟨p1,p2⟩:=pu u um
   have ll:=p1.fJ p2
   refine aP ⟨_,rfl,_,rfl,(by show 1<=ES;decide),λo1 ho1 =>?_⟩
   have g4:=ak ho1 (.tup [.int (i:Int)])
   refine ⟨u.1,o1,_,_,rfl,rfl,g4 _ _ (s3 _ _ (tu u um)),ai,aW (by rw[Ex];show _+1<=_;lia),λc H5 s5 e5=>r1 _ _ ⟨s3.trans (g4.trans s5),ws++[(c,u.2++[(i:Int)])],by rw[ER];rfl,((tw.same g4).same s5).snoc (by rw[e5,ER];rfl),by rw[EE,lw];rfl,λw hw =>?_⟩⟩
   rcases EU.mp hw with h | h
   ·exact pw w h
   ·rw[ED.mp h]
    refine ⟨vO p1 λv hv=>(p2 v hv).2,λv hv =>?_⟩
    rcases EU.mp hv with z | z
    ·have:=p2 v z;lia
    ·rw[ED.mp z];lia
  ·rintro ys H3 _ ⟨s3,ws,rfl,tw,lw,pw⟩ l hl
   rw[lum] at lw
   have g4:=ak hl (.lst (ws.map λu=>V.ref u.1))
   have s4:=s3.trans g4
   refine ⟨U,l,_,_,rfl,rfl,SqL.of (s4 _ _ eU),SqL.of ai,aW (by rw[Ex,Ex];lia),λV' hV =>?_⟩
   have g5:=ak hV (.lst ((us.map λu=>V.ref u.1)++ws.map λu=>V.ref u.1))
   refine ⟨V',us++ws,_,rfl,s2.trans (s4.trans g5),by rw[ai,ER],λu hu =>?_,by rw[EE,lw,lu,Mz];lia,λu hu =>?_⟩
   ·rcases EU.mp hu with h | h
    ·exact (s4.trans g5) _ _ (tu u h)
    ·exact (g4.trans g5) _ _ (tw u h)
   ·rcases EU.mp hu with h | h
    ·exact ⟨(pu u h).1,λv hv=>by have:=(pu u h).2 v hv;lia⟩
    ·exact pw u h
 ·rintro σ H2 ⟨U,us,c2,rfl,s2,eU,tu,lu,pu⟩
  have lim:=tJ m m7
  rw[show ((m:Nat):Int).toNat=m by lia] at lu pu
  exact ⟨_,rfl,q U us _ s2 eU tu pu (by lia)⟩
end
abbrev Ck:Sp:=λvs H Q _=>∃(w p:Addr) (ws F:List Int),vs=[.ref w,.ref p]/\H w=some (.lst (ws.map V.int))/\H p=some (.tup (F.map V.int))/\F.length<=100/\(∀v∈F,0<=v/\v<(ws.length:Int))/\∀H',az H H'->Q (.int (F.map λj=>ws.getD j.toNat 0).sum) H'
@[irreducible] def BU:Sp:=Ck
theorem nY {vs:List V}{H:Hp}{Q:VK}{E:XK}:BU vs H Q E↔Ck vs H Q E:=by
 delta BU
 exact Ge
section
theorem yo:aG ["weights", "places"] ["weights", "places"] (au nC):=⟨rfl,rfl,rfl,by decide +kernel,rfl,by decide +kernel,by decide +kernel⟩
theorem fK:(["place", "weights"]:List Str).Nodup:=by decide +kernel
theorem yq (F:Fun K "_law_weight" "_law_weight" nC f fd)(B:Blt mg):aV P w K mg base CX0 1 f fd ["weights", "places"] BU:=by
 refine F.ok yo (λvs H Q E h =>?_) (λcdv A outer s H vs Q E hr h =>?_)
 ·obtain ⟨_,_,_,_,rfl,_⟩:=nY.mp h
  rfl
 obtain ⟨wa,p,ws,F,rfl,ew,ep,lF,rF,q⟩:=nY.mp h
 refine ⟨_,(aq (aF (aI (zd hr.hd) rfl B.b_sum C2 (aa (bc ["place", "weights"] [none,some 0] rfl (eR (pv 1)) rfl (λ_ _ _ _ _=>(aE (i:=0) fK rfl (Or.inl rfl))) (λ_ _ _ _ _=>cf) (λ_ _ _ _ _=>(ax (dP (K:=K)) (pv 1) (pv 0) (λ_ _=>rfl)))) ag rfl)))),?_⟩
 have lm:(F.map V.int).length=F.length:=Ex _
 refine ⟨_,rfl,p,rfl,⟨_,SqT.of ep⟩,dI (xs:=F.map V.int) (λi ys H'=>H'=H/\ys=((F.take i).map λj=>ws.getD j.toNat 0).map V.int) ⟨rfl,rfl⟩ (by rw[lm];exact aW (by lia)) (λi ys H' _ h=>by rw[h.1];exact SqT.of ep) ?_ ?_⟩
 ·rintro i x ys H1 hx _ ⟨rfl,rfl⟩ R1 R0 r1 r0
  obtain ⟨v,ev,rfl⟩:=eD hx
  obtain ⟨v0,v1⟩:=rF v (EH ev)
  have gv:=uO (ws:=ws) (n:=v.toNat) (by lia)
  rw[show ((v.toNat:Nat):Int)=v by lia] at gv
  refine aP ⟨_,rfl,_,rfl,wa,_,v,_,rfl,rfl,SqL.of ew,gv,r1 _ _ ⟨rfl,?_⟩⟩
  rw[take_snoc ev,ER];rfl
 ·rintro ys H1 _ ⟨rfl,rfl⟩ l hl
  rw[lm,FI]
  exact ⟨l,_,rfl,ai,q _ (ak hl _)⟩
end
def tK (K:Ez):Sp:=λvs H Q _=>∃(a:Addr) (ns:List Int),vs=[.ref a]/\SqL K H a (ns.map V.int)/\ns.length<=63/\∀H',Q (.bl true) H'
theorem pL {K:Ez}{vs:List V}{H:Hp}{Q:VK}{E:XK}:tK K vs H Q E↔∃(a:Addr) (ns:List Int),vs=[.ref a]/\SqL K H a (ns.map V.int)/\ns.length<=63/\∀H',Q (.bl true) H':=Ge
theorem AE {K:Ez}{H H':Hp}{a:Addr}{xs:List V}(h:SqL K H a xs)(s:az H H'):SqL K H' a xs:=s.seq h
theorem Lyr.bu {K:Ez}{p:Addr}{H H':Hp}{la:Addr}{tie:Bool}{m:Nat}{P:List Int}{s0 s1:Int}(h:Lyr K H la tie m P s0 s1)(b:Bu 2 p H H')(hp:Pt 2 H p):Lyr K H' la tie m P s0 s1:=by
 obtain ⟨⟨pl,sh,e1,e2,e3⟩,r,l,z,x,y,o⟩:=h
 exact ⟨⟨pl,sh,b.tup hp e1,b.tup hp e2,e3.bu b hp⟩,r,l,z,x,y,o⟩
theorem GL.bu {K:Ez}{p:Addr}{H H':Hp}{la:Addr}{wd:Str}{S:List Int}{a b:Int}(h:GL K H la wd S a b)(s:Bu 2 p H H')(hp:Pt 2 H p):GL K H' la wd S a b:=by
 obtain ⟨pl,sh,e1,e2,e3⟩:=h.at'
 exact ⟨⟨pl,sh,s.tup hp e1,s.tup hp e2,e3.bu s hp⟩⟩
structure Gd (K:Ez)(m:Nat)(ns:List (List Int))(H:Hp)(x:Addr×Ly):Prop where
 ly:Lyr K H x.1 x.2.tie m x.2.S x.2.a x.2.b
 gl:GL K H x.1 x.2.wd x.2.S x.2.a x.2.b
 sz:x.2.S.length<=120/\x.2.a.natAbs<2 ^ 200/\x.2.b.natAbs<2 ^ 200
 wd:x.2.wd=wrd x.2.tie
 gy:Gy m ns x.2
theorem Gd.same {K:Ez}{m:Nat}{ns:List (List Int)}{H H':Hp}{x:Addr×Ly}(h:Gd K m ns H x)(s:az H H'):Gd K m ns H' x:=⟨h.ly.same s,h.gl.same s,h.sz,h.wd,h.gy⟩
theorem Gd.bu {K:Ez}{m:Nat}{ns:List (List Int)}{p:Addr}{H H':Hp}{x:Addr×Ly}(h:Gd K m ns H x)(s:Bu 2 p H H')(hp:Pt 2 H p):Gd K m ns H' x:=⟨h.ly.bu s hp,h.gl.bu s hp,h.sz,h.wd,h.gy⟩
theorem rf (tie:Bool)(P:List Int)(a b:Int):(Ly.mk (wrd tie) P a b).tie=tie:=by
 cases tie with
 | true=>exact (show decide (("ties" : Str) = "ties")=true by decide +kernel)
 | false=>exact (show decide (("ring" : Str) = "ties")=false by decide +kernel)
theorem Gd.of {K:Ez}{m:Nat}{ns:List (List Int)}{H:Hp}{la:Addr}{tie:Bool}{P:List Int}{s0 s1:Int}(h:Lyr K H la tie m P s0 s1)(l:P.length<=120)(g:LyG ns m tie P)(a0:0<s0)(x:s0.natAbs<2 ^ 200)(y:s1.natAbs<2 ^ 200):Gd K m ns H (la,⟨wrd tie,P,s0,s1⟩) :=
 ⟨by rw[rf];exact h,⟨h.at'⟩,⟨l,x,y⟩,by rw[rf],⟨by rw[rf];exact g,h.rng,h.pos,a0⟩⟩
theorem Gd.ok {K:Ez}{m:Nat}{ns:List (List Int)}(O:Ok m ns){H:Hp}{x:Addr×Ly}(h:Gd K m ns H x):x.2.ok m ns:=by
 unfold Ly.ok
 rw[h.wd]
 exact Ax O h.gy.ly h.gy.rg h.ly.low h.gy.a0
theorem AF {i:Nat}{v:V}{σ:St}{H:Hp}{Q:St->Hp->Prop}(h:Q (σ.set i (some v)) H):jC i v σ H Q:=h
theorem AG {tc:TT}{ta tb:TS}{D:Ends}{σ:St}{H:Hp}(h:∀K:Bool->Hp->Prop,(∀k H',az H H'->K k H')->tc σ H K)(ht:∀H',az H H'->ta D σ H')(hf:∀H',az H H'->tb D σ H'):Dy tc ta tb D σ H:=h _ λk H' s=>by
 cases k with
 | true=>exact aP (ht H' s)
 | false=>exact aQ (hf H' s)
theorem BV {α:Type}(f:α -> V)(Z:List α)(a b:Option Int):∃Y:List α,cS (Z.map f) a b=Y.map f/\Y.length<=Z.length/\∀y∈Y,y∈Z:=by
 refine ⟨(Z.drop (HT.sIx (Z.map f).length 0 a)).take (HT.sIx (Z.map f).length (Z.map f).length b-HT.sIx (Z.map f).length 0 a),?_,?_,λy hy=>Hx (Gp hy)⟩
 ·unfold cS
  rw[IH,Ik]
 ·rw[Fz,FD];lia
theorem Ep {α:Type}(f:α -> V)(xs:List α)(k:Nat):cS (xs.map f) none (some (k:Int))=(xs.take k).map f:=by
 by_cases h:k<=xs.length
 ·rw[uI _ (by rw[Ex];exact h),IH]
 ·unfold cS HT.sIx
  dsimp only
  rw[if_neg (by lia),GK,Ex,KR (by lia),Lc,Jt,Fv (by rw[Ex];exact EI _),Fv (by lia)]
theorem Er {α:Type}(f:α -> V)(xs:List α)(k:Nat):cS (xs.map f) (some (k:Int)) none=(xs.drop k).map f:=by
 by_cases h:k<=xs.length
 ·rw[qB _ (by rw[Ex];exact h),Ik]
 ·unfold cS HT.sIx
  dsimp only
  rw[if_neg (by lia),GK,Ex,KR (by lia),G1,List.take_zero,List.drop_of_length_le (by lia)]
  rfl
theorem AH {l r:List Int}{j:Nat}(h:j<l.length):(l++r).getD j 0=l.getD j 0:=by
 rw[EF,E1 h, <- EF]
theorem AI {l r:List Int}{j:Nat}(h:l.length<=j):(l++r).getD j 0=r.getD (j-l.length) 0:=by
 rw[EF,E6 h, <- EF]
def encL:Option (Addr×Ly)->V
 | none =>.non
 | some x =>.ref x.1
theorem take_one {α:Type}{xs:List α}{i:Nat}{x:α}(h:xs[i]? = some x):xs.take (i+1)=xs.take i++[x]:=by
 rw[FW,h];rfl
theorem pM (ls:List (Option (Addr×Ly)))(o:Option (Addr×Ly)):(ls++[o]).filterMap id=ls.filterMap id++o.toList:=by
 rw[JC]
 cases o <;> rfl
theorem BW:∀(l:List (Int×Int)),(∀q∈l,One q)->jh (bG l).1 (bG l).2=true:=λl h=>by
 rcases JE l with rfl | ⟨l',q,rfl⟩
 ·decide +kernel
 ·rw[HP,iN]
  have s:=jw l' λu hu=>h u (by rw[HP];exact F6 _ hu)
  have o:=h q (by rw[HP];simp)
  exact nH (Jr s.pos o.pos)
def up (q:Int×Int):Int := -(-q.1/q.2)
theorem Es {q:Int×Int}(h:0<q.2):¬ up q*q.2<q.1:=by
 have:=Int.ediv_mul_le (-q.1) (Int.ne_of_gt h)
 unfold up
 rw[Int.neg_mul];omega
theorem Et {q:Int×Int}(h:0<q.2):(up q-1)*q.2<q.1:=by
 have:=Int.lt_ediv_add_one_mul_self (-q.1) h
 unfold up
 rw[show (-(-q.1/q.2)-1) = -(-q.1/q.2+1) by lia,Int.neg_mul]
 lia
theorem AJ {n:Nat}{q:Int×Int}(h:Sum n q)(hn:n<=10):(up q).natAbs<2 ^ 2500:=by
 unfold up
 rw[Nh]
 have:=Int.natAbs_ediv_le_natAbs (-q.1) q.2
 rw[Nh] at this
 exact Fb this (EL h.n1 (FG (by decide) (by lia)))
theorem BX {a b:Int}(h:a.natAbs<2 ^ 2500)(d:(b-a).natAbs<=10):Wd b:=by
 have h1:b.natAbs<=a.natAbs+10:=by clear h;omega
 exact Fb h1 (EL (LD h 10) (by decide +kernel))
theorem wL (z:Nat)(f:Int->Int):∀F:List Int,(∀v∈F,(f v).natAbs<z)->(F.map f).sum.natAbs<=F.length*z
 | [],_=>FE _
 | a :: F,h=>by
  rw[EZ,F2,Fg,Nat.add_mul]
  have h1:=h a E7
  have h2:=wL z f F λv hv=>h v (E8 _ hv)
  omega
theorem Dr {F:List Int}{f:Int->Int}(l:F.length<=40)(h:∀v∈F,(f v).natAbs<2 ^ 2500+10):Wd (F.map f).sum :=
 Fb (Ff (wL _ f F h) (Nat.mul_le_mul_right _ l)) (by decide +kernel)
section
theorem eI:aG ["script", "k", "pot", "web", "paper", "takes", "least", "weights", "bound", "some", "full", "place", "fewer"] ["script"] (au xV):=⟨rfl,rfl,rfl,by decide +kernel,rfl,by decide +kernel,by decide +kernel⟩
theorem jz:(["turn", "pot", "web"]:List Str).Nodup:=by decide +kernel
theorem tL:(["layer"]:List Str).Nodup:=by decide +kernel
theorem u3:(["take"]:List Str).Nodup:=by decide +kernel
theorem lA:(["weight", "pot"]:List Str).Nodup:=by decide +kernel
theorem d8:(["place", "weights", "least"]:List Str).Nodup:=by decide +kernel
theorem Eu (F:Fun K "law" "law" xV f fd)(B:Blt mg)(cLDeal:Cal P w K mg base 1 "_law_deal" ["script", "k"] (qH K))(cLWeb:Cal P w K mg base 2 "_law_web" ["pot", "most", "room"] vW)(cLPaperTakes:Cal P w K mg base 5 "_law_paper_takes" ["web", "paper"] (BO K))(cLLayer:Cal P w K mg base 6 "_law_layer" ["pot", "web"] (my K))(cPaperBound:Cal P w K mg base 6 "paper_bound" ["web", "weights", "paper"] (BN K))(cLAllSets:Cal P w K mg base 1 "_law_all_sets" ["many"] wK)(cLTake:Cal P w K mg base 1 "_law_take" ["pot", "many"] fg)(cLIsRatio:Cal P w K mg base 2 "_law_is_ratio" ["thing"] (vN K))(cLClears:Cal P w K mg base 2 "_law_clears" ["web", "places"] wJ)(cLWeight:Cal P w K mg base 1 "_law_weight" ["weights", "places"] BU):aV P w K mg base CX0 7 f fd ["script"] (tK K):=by
 refine F.ok eI (λvs H Q E h =>?_) (λcdv A outer s H vs Q E hr h =>?_)
 ·obtain ⟨_,_,rfl,_⟩:=pL.mp h
  rfl
 obtain ⟨a,ns,rfl,hS,h63,q⟩:=pL.mp h
 refine ⟨_,(ah (bB Fp rfl (aY rfl B.b_range (aa (aI (ie rfl) rfl B.b_max kM (aa ae (aa (aI (oE rfl) rfl B.b_min kN (aa (aI aO rfl B.b_len bW (aa (pv 0) ag rfl)) (aa ae ag rfl) rfl)) ag rfl) rfl)) ag rfl)) (aE (i:=1) eI.nd rfl (Or.inl rfl))
   (ah (aB (i:=2) eI.nd rfl (Or.inr rfl) (ay cLDeal hr (by decide) rfl (aa (pv 0) (aa (pv 1) ag rfl) rfl)))
   (ah (aB (i:=3) eI.nd rfl (Or.inr rfl) (ay cLWeb hr (by decide) rfl (aa (pv 2) (aa ae (aa ae ag rfl) rfl) rfl)))
   (ah (cE (i:=4) ["turn", "pot", "web"] [none,some 2,some 3] rfl eI.nd rfl rfl (aY rfl B.b_range (aa (ay cLTake hr (by decide) rfl (aa (pv 2) (aa ae ag rfl) rfl)) ag rfl)) rfl (λ_ _ _ _ _=>(aE (i:=0) jz rfl (Or.inl rfl))) (λ_ _ _ _ _=>cf) (λ_ _ _ _ _=>(ay cLLayer hr (by decide) rfl (aa (pv 1) (aa (pv 2) ag rfl) rfl))))
   (ah (cE (i:=4) ["layer"] [none] rfl eI.nd rfl rfl (bp (pv 4)) rfl (λ_ _ _ _ _=>(aE (i:=0) tL rfl (Or.inl rfl))) (λ_ _ _ _ _=>(dO (aA l8 (pv 0) cU (aK _)))) (λ_ _ _ _ _=>(pv 0)))
   (ah (aB (i:=5) eI.nd rfl (Or.inl rfl) (ay cLPaperTakes hr (by decide) rfl (aa (pv 3) (aa (pv 4) ag rfl) rfl)))
   (ah (aB (i:=6) eI.nd rfl (Or.inr rfl) (bc ["take"] [none] rfl (bp (pv 5)) rfl (λ_ _ _ _ _=>(aE (i:=0) u3 rfl (Or.inl rfl))) (λ_ _ _ _ _=>cf) (λ_ _ _ _ _=>(rn mE (aD gI (rn mE (ax (dh (K:=K)) (pv 0) ae (λ_ _=>rfl))) (ax (dh (K:=K)) (pv 0) ae (λ_ _=>rfl)))))))
   (ah (aB (i:=7) eI.nd rfl (Or.inr rfl) (bc ["weight", "pot"] [none,some 2] rfl (bp (pv 6)) rfl (λ_ _ _ _ _=>(aE (i:=0) lA rfl (Or.inl rfl))) (λ_ _ _ _ _=>cf) (λ_ _ _ _ _=>(aD bh (pv 0) (ax (dh (K:=K)) (bw (aa ae (aa ae (aa (ay cLTake hr (by decide) rfl (aa (pv 1) (aa ae ag rfl) rfl)) ag rfl) rfl) rfl)) (ay cLTake hr (by decide) rfl (aa (pv 1) (aa ae ag rfl) rfl)) (λ_ _=>rfl))))))
   (aq (aU (PW.pt (gm (aA (Bq hr) (pv 7) (cy ag) (aK _)) (fM (aA B0 (aI (xU rfl) rfl B.b_max kM (aa (pv 7) ag rfl)) (aD fN ae ae) (aK _))))) (ah (aB (i:=8) eI.nd rfl (Or.inl rfl) (ay cPaperBound hr (by decide) rfl (aa (pv 3) (aa (pv 7) (aa (pv 4) ag rfl) rfl) rfl)))
    (ah (aU (PW.pt (gm (aA tN (pv 8) cU (aK _)) (fM (gn (eQ (ay cLIsRatio hr (by decide) rfl (aa (pv 8) ag rfl))))))) kh aM)
    (ah (bB Fp rfl (bp (ay cLAllSets hr (by decide) rfl (aa (ax av (pv 3) ae (λ_ _=>rfl)) ag rfl))) (aE (i:=9) eI.nd rfl (Or.inl rfl))
     (aq (aU (PW.pt (cK (eQ (ay cLClears hr (by decide) rfl (aa (pv 3) (aa (pv 9) ag rfl) rfl))) (bX (aA mF (ax av (pv 8) ae (λ_ _=>rfl)) (aD bQ (ay cLWeight hr (by decide) rfl (aa (pv 7) (aa (pv 9) ag rfl) rfl)) (ax av (pv 8) ae (λ_ _=>rfl))) (aK _))))) kh aM)) (λ_=>rfl))
    (ah (cE (i:=10) ["place", "weights", "least"] [none,some 7,some 6] rfl eI.nd rfl rfl (aY rfl B.b_range (aa (ax av (pv 3) ae (λ_ _=>rfl)) ag rfl)) rfl (λ_ _ _ _ _=>(aE (i:=0) d8 rfl (Or.inl rfl))) (λ_ _ _ _ _=>(dO (yG bN mF (ax (dP (K:=K)) (pv 1) (pv 0) (λ_ _=>rfl)) (ax (dP (K:=K)) (pv 2) (pv 0) (λ_ _=>rfl)) ae))) (λ_ _ _ _ _=>(pv 0)))
    (aq (bB Fp rfl (bp (cc ig (pv 10) cN (cO ae))) (aE (i:=11) eI.nd rfl (Or.inl rfl))
     (ah (aB (i:=12) eI.nd rfl (Or.inl rfl) (aD p9 (aD p9 (cc ig (pv 7) cN (cO (pv 11))) (cy (aa (aD gx (ax bz (pv 7) (pv 11) (λ_ _=>rfl)) ae) ag rfl))) (cc ig (pv 7) (cO (aD bh (pv 11) ae)) cN)))
     (aq (aU (aA l8 (ay cPaperBound hr (by decide) rfl (aa (pv 3) (aa (pv 12) (aa (pv 4) ag rfl) rfl) rfl)) cU (aK _)) kh aM))) (λ_=>rfl))))))) aM))))))))) (λ_=>rfl))
  (aq (aF jB))),?_⟩
 have mx:∃n:Nat,(if (if (4:Int)<((ns.length:Nat):Int) then (4:Int) else ((ns.length:Nat):Int))>1 then (if (4:Int)<((ns.length:Nat):Int) then (4:Int) else ((ns.length:Nat):Int)) else 1)=(n:Int)/\n<=63:=by
  refine ⟨(if (if (4:Int)<((ns.length:Nat):Int) then (4:Int) else ((ns.length:Nat):Int))>1 then (if (4:Int)<((ns.length:Nat):Int) then (4:Int) else ((ns.length:Nat):Int)) else 1).toNat,?_,?_⟩
  ·split <;> split <;> lia
  ·split <;> split <;> lia
 obtain ⟨n,en,n63⟩:=mx
 let W0:Nat->St->Hp->Prop:=λk σ H'=>(∃c1 c2 c3 c4 c5 c6 c7 c8 c9 c10 c11 c12,σ=[some (.ref a),c1,c2,c3,c4,c5,c6,c7,c8,c9,c10,c11,c12])/\az H H'
 refine ⟨_,rfl,a,_,rfl,.inl hS,_,_,rfl,_,_,rfl,(n:Int),by rw[Ex, <- en],by lia,by lia,cV W0 ⟨⟨_,_,_,_,_,_,_,_,_,_,_,_,rfl⟩,az.refl _⟩ ?_ ?_⟩
 case refine_2 =>
  rintro σ H1 ⟨⟨c1,c2,c3,c4,c5,c6,c7,c8,c9,c10,c11,c12,rfl⟩,s1⟩
  exact q _
 rintro k σ H1 hk ⟨⟨c1,c2,c3,c4,c5,c6,c7,c8,c9,c10,c11,c12,rfl⟩,s1⟩
 refine ⟨_,rfl,_,rfl,ji.mpr ⟨a,ns,0+(k:Int),rfl,AE hS s1,by lia,by lia,λx y p hp =>?_⟩⟩
 have pt:Pt 2 (upd H1 p (.lst [.int x,.int y])) p:=⟨[x,y],rfl,ai⟩
 have frs:∀{H':Hp},Bu 2 p (upd H1 p (.lst [.int x,.int y])) H'->az H H':=λ{H'} b=>s1.trans (Bu.fresh hp b)
 generalize upd H1 p (.lst [.int x,.int y])=H2 at pt frs
 refine ⟨_,rfl,k7.mpr ⟨p,7,12,rfl,pt,by decide,by decide,λr m ts H3 b3 W m7 =>?_⟩⟩
 have m4:m<=40:=by lia
 have O:=nE W
 refine ⟨_,rfl,aN.mpr ⟨p,5,rfl,b3.pot,by decide,by decide,λnl H4 nl0 nl1 b4 =>?_⟩⟩
 obtain ⟨nn,rfl⟩:∃nn:Nat,nl=nn:=⟨nl.toNat,by lia⟩
 have b34:=b3.trans b4
 have W4:=W.bu b4 b3.pot
 let W1:Nat->List V->Hp->Prop:=λi ys H'=>Bu 2 p H4 H'/\∃ls:List (Option (Addr×Ly)),ys=ls.map encL/\ls.length=i/\∀x,some x∈ls->Gd K m (ts.map (·.2)) H' x
 refine ⟨(nn:Int),rfl,by lia,by lia,bE W1 ⟨Bu.refl b4.pot,[],rfl,rfl,λx h=>nomatch h⟩ (aW (by lia)) ?_ ?_⟩
 ·rintro i ys H5 hi _ ⟨b5,ls,rfl,ll,al⟩ R1 R0 r1 r0
  refine aP ⟨_,rfl,_,rfl,(hX (E:=E0)).mpr ⟨p,r,m,ts,rfl,b5.pot,W4.bu b5 b4.pot,m4,λH6 b6 =>?_,λla tie P s0 s1' H6 b6 LY lP gP a0 x0 y0 =>?_⟩⟩
  ·refine r1 _ _ ⟨b5.trans b6,ls++[none],by rw[ER];rfl,by rw[EE,ll];rfl,λz hz =>?_⟩
   rcases EU.mp hz with h | h
   ·exact (al z h).bu b6 b5.pot
   ·rw[ED] at h;cases h
  ·refine r1 _ _ ⟨b5.trans b6,ls++[some (la,⟨wrd tie,P,s0,s1'⟩)],by rw[ER];rfl,by rw[EE,ll];rfl,λz hz =>?_⟩
   rcases EU.mp hz with h | h
   ·exact (al z h).bu b6 b5.pot
   ·rw[ED] at h
    rw[EX h]
    exact Gd.of LY lP gP a0 x0 y0
 rintro ys H5 _ ⟨b5,ls,rfl,ll,al⟩ l0 hl0
 have b35:=b34.trans b5
 have g6:=ak hl0 (.lst (ls.map encL))
 have el0:upd H5 l0 (.lst (ls.map encL)) l0=some (.lst (ls.map encL)):=ai
 have al6:∀x,some x∈ls->Gd K m (ts.map (·.2)) (upd H5 l0 (.lst (ls.map encL))) x:=λx h=>(al x h).same g6
 generalize upd H5 l0 (.lst (ls.map encL))=H6 at g6 el0 al6
 have b6:=b35.same g6
 have W6:=(W4.bu b5 b4.pot).same g6
 have lem:(ls.map encL).length=ls.length:=Ex _
 refine ⟨_,rfl,l0,rfl,⟨_,SqL.of el0⟩,bx (xs:=ls.map encL) (λi ys H'=>H'=H6/\ys=((ls.take i).filterMap id).map λx=>V.ref x.1) ⟨rfl,rfl⟩ (by rw[lem];exact aW (by lia)) (λi ys H' _ h=>by rw[h.1];exact SqL.of el0) ?_ ?_⟩
 ·rintro i x ys H7 hx _ ⟨rfl,rfl⟩ R1 R0 r1 r0
  rw[ET] at hx
  obtain ⟨o,eo,rfl⟩:=Hf.mp hx
  cases o with
  | none =>
   refine ⟨_,rfl,rfl,_,rfl,aQ (r0 _ ⟨rfl,?_⟩)⟩
   rw[take_one eo,pM,Option.toList_none,FQ]
  | some u =>
   refine ⟨_,rfl,rfl,_,rfl,aP ⟨_,rfl,r1 _ _ ⟨rfl,?_⟩⟩⟩
   rw[take_one eo,pM,ER];rfl
 rintro ys H7 _ ⟨rfl,rfl⟩ pa hpa
 rw[lem,FI]
 obtain ⟨xs,exs⟩:∃xs,xs=ls.filterMap id:=⟨_,rfl⟩
 rw[<- exs]
 have lxs:xs.length<=4:=by
  have:=List.length_filterMap_le id ls
  rw[exs];lia
 have npa:=kZ b6.pot hpa
 have g8:=ak hpa (.lst (xs.map λx=>V.ref x.1))
 have epa:upd H7 pa (.lst (xs.map λx=>V.ref x.1)) pa=some (.lst (xs.map λx=>V.ref x.1)):=ai
 have al8:∀x∈xs,Gd K m (ts.map (·.2)) (upd H7 pa (.lst (xs.map λx=>V.ref x.1))) x:=λx h=>by
  rw[exs] at h
  obtain ⟨o,ho,e⟩:=Iw.mp h
  rw[show o=some x from e] at ho
  exact (al6 x ho).same g8
 generalize upd H7 pa (.lst (xs.map λx=>V.ref x.1))=H8 at g8 epa al8
 have b8:=b6.same g8
 have W8:=W6.same g8
 have mkP:∀{H':Hp},H' pa=some (.lst (xs.map λx=>V.ref x.1))->(∀x∈xs,Gd K m (ts.map (·.2)) H' x)->Pap K true H' pa xs:=λ{H'} e al=>⟨e,λx hx=>(al x hx).gl,λx hx=>⟨by have:=(al x hx).sz.1;lia,(al x hx).sz.2.1,(al x hx).sz.2.2⟩,by lia⟩
 have P8:=mkP epa al8
 have G8:Gds K H8 pa m xs:=⟨P8,λx hx=>(al8 x hx).ly⟩
 clear b3 b4 b34 b5 b35 b6 W4 W6 al al6 el0 g6
 refine ⟨_,rfl,_,rfl,nV.mpr ⟨r,pa,m,ts,xs,rfl,W8,m4,G8,λU H9 s9 _ T9 =>?_⟩⟩
 have nl:(ts.map (·.2)).length<=200:=by rw[Ex];exact Ff W8.len (by decide)
 have on9:∀j,Sum xs.length (bG ((xs.map (·.2)).map (tv (ts.map (·.2)) j))):=λj=>by
  have:=jw ((xs.map (·.2)).map (tv (ts.map (·.2)) j)) λq hq=>by
   obtain ⟨y,hy,rfl⟩:=E9.mp hq
   obtain ⟨x,hx,rfl⟩:=E9.mp hy
   exact nU (P8.sz x hx) (al8 x hx).gy.b0 nl
  rw[Ex,Ex] at this
  exact this
 obtain ⟨us,eU,lU,tU,vU⟩:=T9
 have lum:(us.map λu=>V.ref u.1).length=us.length:=Ex _
 refine ⟨_,rfl,U,rfl,⟨_,SqL.of eU⟩,bx (xs:=us.map λu =>.ref u.1) (λi ys H'=>H'=H9/\ys=((us.take i).map λu=>up u.2).map V.int) ⟨rfl,rfl⟩ (by rw[lum];exact aW (by lia)) (λi ys H' _ h=>by rw[h.1];exact SqL.of eU) ?_ ?_⟩
 ·rintro i x ys H10 hx _ ⟨rfl,rfl⟩ R1 R0 r1 r0
  obtain ⟨u,eu,rfl⟩:=dY hx
  have su:Sum xs.length u.2:=by rw[vU i u eu];exact on9 i
  have tu:=tU u (EH eu)
  refine aP ⟨_,rfl,u.1,_,0,_,rfl,rfl,tu,at0,_,rfl,_,rfl,u.1,_,1,_,rfl,rfl,tu,at1,_,_,rfl,rfl,⟨su.pos,su.w2 (by lia)⟩,_,rfl,r1 _ _ ⟨rfl,?_⟩⟩
  rw[take_snoc eu,ER];rfl
 rintro ys H10 _ ⟨rfl,rfl⟩ la hla
 rw[lum,FI]
 have gls:∀j:Nat,j<m->(us.map λu=>up u.2).getD j 0=up (bG ((xs.map (·.2)).map (tv (ts.map (·.2)) j))):=λj hj=>by
  have eu:us[j]? = some us[j]:=EA (by lia)
  rw[EF,ET,eu]
  show up us[j].2=_
  rw[vU j _ eu]
 have lls:(us.map λu=>up u.2).length=m:=by rw[Ex];exact lU
 generalize (us.map λu=>up u.2)=fl at gls lls
 have nla:=kZ ((b8.same s9).pot) hla
 have g11:=ak hla (.lst (fl.map V.int))
 have ela:upd H10 la (.lst (fl.map V.int)) la=some (.lst (fl.map V.int)):=ai
 have s81:=s9.trans g11
 generalize upd H10 la (.lst (fl.map V.int))=H11 at g11 ela s81
 have b11:=b8.same s81
 have W11:=W8.same s81
 have al11:∀x∈xs,Gd K m (ts.map (·.2)) H11 x:=λx hx=>(al8 x hx).same s81
 have epa11:=s81 _ _ epa
 have lfm:(fl.map V.int).length=m:=by rw[Ex];exact lls
 clear eU tU vU lU lum W8 G8 P8 epa g11 hla
 let W2:Nat->List V->Hp->Prop:=λi ys H'=>Bu 2 p H11 H'/\∃ws:List Int,ys=ws.map V.int/\ws.length=i/\∀j:Nat,j<i->fl.getD j 0<=ws.getD j 0/\ws.getD j 0<=fl.getD j 0+4
 refine ⟨_,rfl,la,rfl,⟨_,SqL.of ela⟩,bx (xs:=fl.map V.int) W2 ⟨Bu.refl b11.pot,[],rfl,rfl,λj h=>absurd h (HZ j)⟩ (by rw[lfm];exact aW (by lia)) (λi ys H' _ h=>SqL.of (h.1.st _ _ nla ela)) ?_ ?_⟩
 ·rintro i x ys H12 hx _ ⟨b12,ws,rfl,lw,aw⟩ R1 R0 r1 r0
  obtain ⟨v,ev,rfl⟩:=eD hx
  refine aP ⟨_,rfl,_,rfl,(aN (E:=E0)).mpr ⟨p,5,rfl,b12.pot,by decide,by decide,λd5 H13 d50 d51 b13=>⟨(by show 3<=ES;decide),λtt htt =>?_⟩⟩⟩
  have g14:=ak htt (.tup [.int 0,.int 0,.int d5])
  have ett:upd H13 tt (.tup [.int 0,.int 0,.int d5]) tt=_:=ai
  generalize upd H13 tt (.tup [.int 0,.int 0,.int d5])=H14 at g14 ett
  have b14:=(b12.trans b13).same g14
  refine ⟨_,rfl,(aN (E:=E0)).mpr ⟨p,3,rfl,b14.pot,by decide,by decide,λd3 H15 d30 d31 b15 =>?_⟩⟩
  obtain ⟨zz,ez,z0,z4⟩:∃z:Int,atI [V.int 0,V.int 0,V.int d5] d3=some (.int z)/\0<=z/\z<=4:=by
   obtain rfl | rfl | rfl:d3=0\/d3=1\/d3=2:=by lia
   ·exact ⟨0,rfl,by decide,by decide⟩
   ·exact ⟨0,rfl,by decide,by decide⟩
   ·exact ⟨d5,rfl,by lia,by lia⟩
  refine ⟨tt,_,d3,.int zz,rfl,rfl,SqT.of (b15.tup b14.pot ett),ez,_,_,rfl,rfl,r1 _ _ ⟨b14.trans b15,ws++[v+zz],by rw[ER];rfl,by rw[EE,lw];rfl,λj hj =>?_⟩⟩
  by_cases c:j<i
  ·rw[AH (by lia)]
   exact aw j c
  ·have ej:j=i:=by lia
   rw[ej,AI (by lia),lw,G1,getD_at ev]
   show v<=v+zz/\v+zz<=v+4
   lia
 rintro ys H12 _ ⟨b12,ws,rfl,lw,aw⟩ wa hwa
 rw[lfm] at lw aw
 have g13:=ak hwa (.lst (ws.map V.int))
 have ewa:upd H12 wa (.lst (ws.map V.int)) wa=some (.lst (ws.map V.int)):=ai
 have b13:=(b11.trans b12).same g13
 have W13:=(W11.bu b12 b11.pot).same g13
 have al13:∀x∈xs,Gd K m (ts.map (·.2)) (upd H12 wa (.lst (ws.map V.int))) x:=λx hx=>((al11 x hx).bu b12 b11.pot).same g13
 have epa13:=g13 _ _ (b12.st _ _ npa epa11)
 have ela13:=g13 _ _ (b12.st _ _ nla ela)
 generalize upd H12 wa (.lst (ws.map V.int))=H13 at g13 ewa b13 W13 al13 epa13 ela13
 clear b11 b12 al11 epa11 ela W11 s81 s9 g8 al8 b8 hwa g13
 have wdw:∀j:Nat,j<m->(ws.getD j 0).natAbs<2 ^ 2500+10/\∀z:Int,(z-fl.getD j 0).natAbs<=10->Wd z:=λj hj=>by
  have us:=AJ (on9 j) (by lia)
  rw[<- gls j hj] at us
  have aj:=aw j hj
  have h1:(ws.getD j 0).natAbs<=(fl.getD j 0).natAbs+4:=by clear us;lia
  exact ⟨Fb h1 (EL (LD us 4) (JT (by decide) _)),λz hz=>BX us hz⟩
 have hold:∀j:Nat,j<m->¬ ws.getD j 0*(bG ((xs.map (·.2)).map (tv (ts.map (·.2)) j))).2<(bG ((xs.map (·.2)).map (tv (ts.map (·.2)) j))).1:=λj hj=>by
  have sp:=(on9 j).pos
  have h1:=Es sp
  rw[<- gls j hj] at h1
  have h2:=Ij (aw j hj).1 (Jb sp)
  lia
 have wdv:∀v∈ws,Wd v:=λv hv=>by
  obtain ⟨j,ej⟩:=Lz hv
  have hj:=(EJ.mp ej).1
  have e2:=getD_at ej
  have aj:=aw j (by lia)
  exact (wdw j (by lia)).2 v (by rw[e2] at aj;lia)
 have pb:pbv m (ts.map (·.2)) ws (xs.map (·.2))=some (bG ((xs.map (·.2)).map (bv (ts.map (·.2))))):=by
  unfold pbv
  have aok:∀y∈xs.map (·.2),y.ok m (ts.map (·.2)):=λy hy=>by
   obtain ⟨x,hx,rfl⟩:=E9.mp hy
   exact (al13 x hx).ok O
  exact if_pos ⟨aok,hold⟩
 refine AF ?_
 dsimp only
 refine AG (λKK hK =>?_) (λH14 s14 =>?_) (λH14 s14 =>?_)
 case refine_3=>exact ⟨⟨_,_,_,_,_,_,_,_,_,_,_,_,rfl⟩,(frs b13).trans s14⟩
 ·refine ⟨_,rfl,(by show 0<=ES;decide),λo9 ho9 =>?_⟩
  have g9:=ak ho9 (.lst [])
  refine ⟨wa,o9,ws,[],rfl,rfl,SqL.of (g9 _ _ ewa),SqL.of ai,_,rfl,?_⟩
  by_cases w0:ws=[]
  ·rw[decide_eq_true w0]
   exact aP (hK _ _ g9)
  ·rw[decide_eq_false w0]
   refine aQ ⟨_,rfl,wa,ws,rfl,SqL.of (g9 _ _ ewa),w0,λM _ _=>⟨_,_,rfl,rfl,⟨by decide,by decide,by decide⟩,_,_,rfl,rfl,_,rfl,hK _ _ g9⟩⟩
 have W14:=W13.same s14
 have al14:∀x∈xs,Gd K m (ts.map (·.2)) H14 x:=λx hx=>(al13 x hx).same s14
 have epa14:=s14 _ _ epa13
 have ela14:=s14 _ _ ela13
 have ewa14:=s14 _ _ ewa
 have s04:=(frs b13).trans s14
 clear W13 al13 epa13 ela13 ewa b13
 refine ⟨_,rfl,_,rfl,_,rfl,j6.mpr ⟨r,wa,pa,m,ts,ws,true,xs,rfl,W14,m4,ewa14,lw,wdv,mkP epa14 al14,λv H15 s15 Rv =>?_⟩⟩
 rw[pb] at Rv
 obtain ⟨z,rfl,tz⟩:=Rv
 have oneb:∀q'∈(xs.map (·.2)).map (bv (ts.map (·.2))),One q':=λq' hq=>by
  obtain ⟨y,hy,rfl⟩:=E9.mp hq
  obtain ⟨x,hx,rfl⟩:=E9.mp hy
  exact uW ((mkP epa14 al14).sz x hx) (al14 x hx).gy.b0 nl
 refine ⟨_,rfl,rfl,_,rfl,aQ ⟨_,rfl,kY.mpr ⟨z,_,_,rfl,tz,λH16 s16=>⟨_,rfl,?_⟩⟩⟩⟩
 rw[BW _ oneb]
 have s46:=s15.trans s16
 have W16:=W14.same s46
 have tz16:=tz.same s16
 have sb:=jw _ oneb
 rw[Ex,Ex] at sb
 have hb:=λ(F:List Int) nF rF (L:List Int) hL w=>dual O (ys:=xs.map (·.2)) (λy hy=>by
  obtain ⟨x,hx,rfl⟩:=E9.mp hy
  exact (al14 x hx).gy) hold (F:=F) nF rF (L:=L) hL w
 generalize bG ((xs.map (·.2)).map (bv (ts.map (·.2))))=qb at tz16 sb hb
 obtain ⟨wt,ew1,ew2⟩:=id W16.at'
 refine aQ ⟨_,rfl,r,_,0,_,rfl,rfl,SqT.of ew1,rfl,lr.mpr ⟨m,rfl,m7,λV' us' H17 s17 eV tV pV lV =>?_⟩⟩
 have lum:(us'.map λu=>V.ref u.1).length=us'.length:=Ex _
 have s47:=s46.trans s17
 let W3:Nat->St->Hp->Prop:=λi σ H'=>(∃c9',σ=[some (.ref a),some (.int (0+(k:Nat))),some (.ref p),some (.ref r),some (.ref pa),some (.ref U),some (.ref la),some (.ref wa),some (.ref z),c9',c10,c11,c12])/\az H17 H'
 refine ⟨V',rfl,⟨_,SqL.of eV⟩,cM (xs:=us'.map λu =>.ref u.1) W3 ⟨⟨_,rfl⟩,az.refl _⟩ (λi σ H' _ h=>SqL.of (h.2 _ _ eV)) ?_ ?_⟩
 ·rintro i x σ H18 hx ⟨⟨c9',rfl⟩,s18⟩
  obtain ⟨u,eu,rfl⟩:=dY hx
  have um:=EH eu
  obtain ⟨pw,rg⟩:=pV u um
  have eu18:=s18 _ _ (tV u um)
  have lu:=pw.fJ rg
  refine ⟨_,rfl,_,rfl,lq.mpr ⟨r,u.1,m,ts,u.2,rfl,W16.same (s17.trans s18),m4,eu18,λb H19 s19 hb'=>⟨_,rfl,?_⟩⟩⟩
  have s79:=s18.trans s19
  cases b with
  | false=>exact aQ (aQ ⟨⟨_,rfl⟩,s79⟩)
  | true =>
   obtain ⟨L,hL,w'⟩:=hb' rfl
   have bd:=hb u.2 (pw.imp λh=>MD h) rg L hL w'
   have wds:Wd (u.2.map λj=>ws.getD j.toNat 0).sum:=Dr (by lia) λv hv=>(wdw v.toNat (by have:=rg v hv;lia)).1
   refine aP ⟨_,rfl,z,_,0,_,rfl,rfl,(tz16.same s17).same s79,at0,_,rfl,_,rfl,nY.mpr ⟨wa,u.1,ws,u.2,rfl,(s47.trans s79) _ _ ewa14,s19 _ _ eu18,by lia,λv hv=>by rw[lw];exact rg v hv,λH20 s20 =>?_⟩⟩
   refine ⟨_,rfl,z,_,1,_,rfl,rfl,((tz16.same s17).same s79).same s20,at1,_,_,rfl,rfl,⟨wds,sb.w2 (by lia)⟩,_,_,rfl,rfl,_,rfl,?_⟩
   rw[decide_eq_false (by lia)]
   exact aQ ⟨⟨_,rfl⟩,s79.trans s20⟩
 rintro σ H18 ⟨⟨c9',rfl⟩,s18⟩
 have s48:=s47.trans s18
 have W18:=W16.same (s17.trans s18)
 have al18:∀x∈xs,Gd K m (ts.map (·.2)) H18 x:=λx hx=>(al14 x hx).same s48
 have epa18:=s48 _ _ epa14
 have ela18:=s48 _ _ ela14
 have ewa18:=s48 _ _ ewa14
 have ew18:=(s17.trans s18) _ _ ew1
 have s08:=s04.trans s48
 clear W16 al14 epa14 ela14 ewa14 W14 tz16 hb sb oneb tV pV eV s47 s48 s46
 let W4:Nat->List V->Hp->Prop:=λi ys H'=>H'=H18/\∃fs:List Int,ys=fs.map V.int/\fs.length<=i/\∀v∈fs,(0<=v/\v<(m:Int))/\ws.getD v.toNat 0=fl.getD v.toNat 0
 refine ⟨_,rfl,r,_,0,_,rfl,rfl,SqT.of ew18,rfl,(m:Int),rfl,by lia,by lia,bE W4 ⟨rfl,[],rfl,EI _,λv h=>nomatch h⟩ (aW (by lia)) ?_ ?_⟩
 ·rintro i ys H19 hi _ ⟨rfl,fs,rfl,lf,af⟩ R1 R0 r1 r0
  have him:i<m:=by lia
  have no:R0 H19:=r0 _ ⟨rfl,fs,rfl,by lia,af⟩
  refine ⟨_,rfl,_,rfl,wa,_,0+(i:Int),_,rfl,rfl,SqL.of ewa18,(by rw[G5];exact uO (by lia)),_,rfl,_,rfl,la,_,0+(i:Int),_,rfl,rfl,SqL.of ela18,(by rw[G5];exact uO (by lia)),rfl,_,rfl,?_⟩
  by_cases c:ws.getD i 0=fl.getD i 0
  ·rw[decide_eq_true (by rw[c])]
   refine aP ⟨_,_,rfl,rfl,_,rfl,dE (λ_=>⟨_,rfl,r1 _ _ ⟨rfl,fs++[0+(i:Int)],by rw[ER];rfl,by rw[EE];show _+1<=_;lia,λv hv =>?_⟩⟩) λ_=>no⟩
   rcases EU.mp hv with h | h
   ·exact af v h
   ·rw[ED.mp h,G5]
    exact ⟨by lia,c⟩
  ·rw[decide_eq_false (λz=>c (V.int.inj z))]
   exact aQ ⟨_,rfl,aQ no⟩
 rintro ys H19 _ ⟨rfl,fs,rfl,lf,af⟩ fa hfa
 have g20:=ak hfa (.lst (fs.map V.int))
 have efa:upd H19 fa (.lst (fs.map V.int)) fa=_:=ai
 generalize upd H19 fa (.lst (fs.map V.int))=H20 at g20 efa
 obtain ⟨Y,eY,lY,mY⟩:=BV V.int fs none (some 2)
 refine ⟨_,rfl,_,rfl,fa,_,rfl,SqL.of efa,λca hca =>?_⟩
 rw[eY]
 have g21:=ak hca (.lst (Y.map V.int))
 have eca:upd H20 ca (.lst (Y.map V.int)) ca=_:=ai
 generalize upd H20 ca (.lst (Y.map V.int))=H21 at g21 eca
 have s21:=g20.trans g21
 let W5:Nat->St->Hp->Prop:=λi σ H'=>(∃c11' c12',σ=[some (.ref a),some (.int (0+(k:Nat))),some (.ref p),some (.ref r),some (.ref pa),some (.ref U),some (.ref la),some (.ref wa),some (.ref z),c9',some (.ref fa),c11',c12'])/\az H21 H'
 refine ⟨ca,rfl,⟨_,SqL.of eca⟩,cM (xs:=Y.map V.int) W5 ⟨⟨_,_,rfl⟩,az.refl _⟩ (λi σ H' _ h=>SqL.of (h.2 _ _ eca)) ?_ ?_⟩
 case refine_2 =>
  rintro σ H22 ⟨⟨c11',c12',rfl⟩,s22⟩
  exact ⟨⟨_,_,_,_,_,_,_,_,_,_,_,_,rfl⟩,s08.trans (s21.trans s22)⟩
 rintro i x σ H22 hx ⟨⟨c11',c12',rfl⟩,s22⟩
 obtain ⟨v,ev,rfl⟩:=eD hx
 obtain ⟨⟨v0,vm⟩,hv⟩:=af v (mY v (EH ev))
 obtain ⟨j,rfl⟩:∃j:Nat,v=j:=⟨v.toNat,by lia⟩
 have hj:j<m:=by lia
 have hv:ws.getD j 0=fl.getD j 0:=hv
 have s92:=s21.trans s22
 have ew22:=s92 _ _ ewa18
 refine ⟨_,rfl,_,rfl,_,rfl,wa,_,rfl,SqL.of ew22,λx1 h1 =>?_⟩
 rw[Ep]
 have v1:=ak h1 (.lst ((ws.take j).map V.int))
 have f1:upd H22 x1 (.lst ((ws.take j).map V.int)) x1=_:=ai
 generalize upd H22 x1 (.lst ((ws.take j).map V.int))=J1 at v1 f1
 refine ⟨_,rfl,_,rfl,wa,_,(j:Int),_,rfl,rfl,SqL.of (v1 _ _ ew22),uO (by lia),_,_,rfl,rfl,(by show 1<=ES;decide),λx2 h2 =>?_⟩
 have v2:=ak h2 (.lst [.int (ws.getD j 0-1)])
 have f2:upd J1 x2 (.lst [.int (ws.getD j 0-1)]) x2=_:=ai
 generalize upd J1 x2 (.lst [.int (ws.getD j 0-1)])=J2 at v2 f2
 refine ⟨x1,x2,_,_,rfl,rfl,SqL.of (v2 _ _ f1),SqL.of f2,aW (by rw[Ex,Fz];show _+1<=_;lia),λx3 h3 =>?_⟩
 have v3:=ak h3 (.lst (((ws.take j).map V.int)++[.int (ws.getD j 0-1)]))
 have f3:upd J2 x3 (.lst (((ws.take j).map V.int)++[.int (ws.getD j 0-1)])) x3=_:=ai
 generalize upd J2 x3 (.lst (((ws.take j).map V.int)++[.int (ws.getD j 0-1)]))=J3 at v3 f3
 have v13:=v1.trans (v2.trans v3)
 refine ⟨_,rfl,_,rfl,_,_,rfl,rfl,_,rfl,wa,_,rfl,SqL.of (v13 _ _ ew22),λx4 h4 =>?_⟩
 rw[show ((j:Int)+1)=((j+1:Nat):Int) by lia,Er]
 have v4:=ak h4 (.lst ((ws.drop (j+1)).map V.int))
 have f4:upd J3 x4 (.lst ((ws.drop (j+1)).map V.int)) x4=_:=ai
 generalize upd J3 x4 (.lst ((ws.drop (j+1)).map V.int))=J4 at v4 f4
 have v14:=v13.trans v4
 refine ⟨x3,x4,_,_,rfl,rfl,SqL.of (v4 _ _ f3),SqL.of f4,aW (by rw[EE,Ex,Ex,Fz,FD];show _+1+_<=_;lia),λx5 h5 =>?_⟩
 have v5:=ak h5 (.lst ((((ws.take j).map V.int)++[.int (ws.getD j 0-1)])++(ws.drop (j+1)).map V.int))
 have f5:upd J4 x5 (.lst ((((ws.take j).map V.int)++[.int (ws.getD j 0-1)])++(ws.drop (j+1)).map V.int)) x5=some (.lst ((ws.take j++[ws.getD j 0-1]++ws.drop (j+1)).map V.int)):=by rw[ai,ER,ER];rfl
 generalize upd J4 x5 (.lst ((((ws.take j).map V.int)++[.int (ws.getD j 0-1)])++(ws.drop (j+1)).map V.int))=J5 at v5 f5
 have v15:=v14.trans v5
 have s95:=s92.trans v15
 have ltk:(ws.take j).length=j:=by rw[Fz];lia
 have lfw:(ws.take j++[ws.getD j 0-1]++ws.drop (j+1)).length=m:=by
  rw[EE,EE,ltk,FD]
  show j+1+_=_
  lia
 have gfw:(ws.take j++[ws.getD j 0-1]++ws.drop (j+1)).getD j 0=ws.getD j 0-1:=by
  rw[AH (by rw[EE,ltk];show j<j+1;lia),AI (by lia),ltk,G1];rfl
 have wfw:∀v∈ws.take j++[ws.getD j 0-1]++ws.drop (j+1),Wd v:=λv hv'=>by
  rcases EU.mp hv' with h | h
  ·rcases EU.mp h with h | h
   ·exact wdv v (Gp h)
   ·rw[ED.mp h]
    exact (wdw j hj).2 _ (by lia)
  ·exact wdv v (Hx h)
 have no:pbv m (ts.map (·.2)) (ws.take j++[ws.getD j 0-1]++ws.drop (j+1)) (xs.map (·.2))=none:=by
  unfold pbv
  refine if_neg λh=>h.2 j hj ?_
  rw[gfw,hv,gls j hj]
  exact Et (on9 j).pos
 generalize (ws.take j++[ws.getD j 0-1]++ws.drop (j+1))=fw at f5 lfw wfw no
 refine ⟨_,rfl,_,rfl,_,rfl,j6.mpr ⟨r,x5,pa,m,ts,fw,true,xs,rfl,W18.same s95,m4,f5,lfw,wfw,mkP (s95 _ _ epa18) λx hx=>(al18 x hx).same s95,λv' H24 s24 Rv =>?_⟩⟩
 rw[no] at Rv
 have Rv:v' = .non:=Rv
 subst Rv
 exact ⟨rfl,_,rfl,aQ ⟨⟨_,_,rfl⟩,s22.trans (v15.trans s24)⟩⟩
end
theorem all_mk {l:PySem.W.OpenLaw}{w:Fm}{K:Ez}{h:Heap}{mg:Str->Option EB}{fa:Addr}(X:K.In h)(G:h.Ns Fx mg)(hfa:mg "law" = some (.ref fa))
  (h1:a9 K "common_divisor" dU) (h2:xT K "ratio_of" nj 1) (h3:a9 K "ratio_plus" i6) (h4:a9 K "ratio_times" gJ) (h5:a9 K "ratio_less" i7) (h6:a9 K "is_ratio" nk) (h7:a9 K "tie_of" zF) (h8:a9 K "near_lists" nq) (h9:a9 K "tied_times" nr) (h10:a9 K "ties_within" gK) (h11:a9 K "is_rising" kG) (h12:a9 K "is_set_of" ny) (h13:a9 K "cut_web" vy) (h14:a9 K "is_ring" qq) (h15:a9 K "ring_form" kI) (h16:a9 K "way_about" fB) (h17:a9 K "ring_along" i8) (h18:a9 K "shortest_of" gL) (h19:a9 K "least_along" gM) (h20:a9 K "least_ring" i9) (h21:a9 K "ties_among" jb) (h22:a9 K "layer_takes" gN) (h23:a9 K "layer_bound" gO) (h24:a9 K "is_formed_ring" fc) (h25:a9 K "is_tied_set" jf) (h26:a9 K "is_layer" nz) (h27:a9 K "paper_bound" gQ) (h28:a9 K "_law_deal" uA) (h29:a9 K "_law_take" uB) (h30:a9 K "_law_big" zG) (h31:a9 K "_law_web" zI) (h32:a9 K "_law_whole" qr) (h33:a9 K "_law_part" uC) (h34:a9 K "_law_is_ratio" kJ) (h35:a9 K "_law_lowest" nA) (h36:a9 K "_law_plus" uD) (h37:a9 K "_law_ties_in" jT) (h38:a9 K "_law_base" qt) (h39:a9 K "_law_some_places" fS) (h40:a9 K "_law_share" qu) (h41:a9 K "_law_any_ring" iB) (h42:a9 K "_law_layer" qv) (h43:a9 K "_law_layer_takes" dG) (h44:a9 K "_law_total" qw) (h45:a9 K "_law_paper_takes" fT) (h46:a9 K "_law_is_wood" jU) (h47:a9 K "_law_clears" nB) (h48:a9 K "_law_all_sets" kK) (h49:a9 K "_law_weight" nC) (h50:a9 K "law" xV)
  (y_abs:F3 K Fx "abs" = some none) (y_all:F3 K Fx "all" = some none) (y_any:F3 K Fx "any" = some none) (y_bool:F3 K Fx "bool" = some none) (y_enumerate:F3 K Fx "enumerate" = some none) (y_int:F3 K Fx "int" = some none) (y_isinstance:F3 K Fx "isinstance" = some none) (y_len:F3 K Fx "len" = some none) (y_list:F3 K Fx "list" = some none) (y_max:F3 K Fx "max" = some none) (y_min:F3 K Fx "min" = some none) (y_range:F3 K Fx "range" = some none) (y_reversed:F3 K Fx "reversed" = some none) (y_set:F3 K Fx "set" = some none) (y_sorted:F3 K Fx "sorted" = some none) (y_sum:F3 K Fx "sum" = some none) (y_tuple:F3 K Fx "tuple" = some none) (y_zip:F3 K Fx "zip" = some none)
  {ča:Addr} (e_NOUGHT:F3 K Fx "NOUGHT" = some (some (.ref ča)))
  {nd_:Option Addr} {sl_:Array (Option EB)} {t1_ t2_:Tok} {n_:Nat} (nlk:K.lookup ča=some ⟨.type "tuple",nd_,.seq #[.int 0 t1_,.int 1 t2_] n_,sl_⟩)
  : ∃fd:Fi,(∀(s:EG) (v:EB),BindsTo s fd ⟨[v],[]⟩ [("script",v)])/\∀base:Heap,K.In base->base.Ns Fx mg->aV l.prog w K mg base CX0 7 fa fd ["script"] (tK K):=by
 obtain ⟨fl,od,an,sl,oc,kV,dc,pm,cd,ct,al,ll,cl,kl⟩:=h50
 have e:=hfa.symm.trans (JN X G al)
 cases e
 have F50:=yO ll cl kl
 have z_abs:=FA X G y_abs
 have z_all:=FA X G y_all
 have z_any:=FA X G y_any
 have z_bool:=FA X G y_bool
 have z_enumerate:=FA X G y_enumerate
 have z_int:=FA X G y_int
 have z_isinstance:=FA X G y_isinstance
 have z_len:=FA X G y_len
 have z_list:=FA X G y_list
 have z_max:=FA X G y_max
 have z_min:=FA X G y_min
 have z_range:=FA X G y_range
 have z_reversed:=FA X G y_reversed
 have z_set:=FA X G y_set
 have z_sorted:=FA X G y_sorted
 have z_sum:=FA X G y_sum
 have z_tuple:=FA X G y_tuple
 have z_zip:=FA X G y_zip
 refine ⟨PySem.W.fnOf "law" "law" (bP xV) (bA xV) (au xV) .none kV dc pm an cd ct,λs v =>.of_eq rfl,λbase kb nb =>?_⟩
 have B:Blt mg:=⟨z_abs,z_all,z_any,z_bool,z_enumerate,z_int,z_isinstance,z_len,z_list,z_max,z_min,z_range,z_reversed,z_set,z_sorted,z_sum,z_tuple,z_zip⟩
 have x_NOUGHT:=JN X G e_NOUGHT
 have Z:Exs K mg ča:=⟨x_NOUGHT,λH=>SqT.lit nlk rfl rfl (by show 2<=ES;decide) (.cons ⟨_,rfl⟩ (.cons ⟨_,rfl⟩ .nil))⟩
 have cLDeal:=h28.cal l.prog w base X G (λF=>BE F B) λ_ _ _ _ _ _ us hl=>match us,hl with | [_,_],_=>rfl
 have cLTake:=h29.cal l.prog w base X G (λF=>BF F B) λ_ _ _ _ _ _ us hl=>match us,hl with | [_,_],_=>rfl
 have cLWeb:=h31.cal l.prog w base X G (λF=>De F B cLTake) λ_ _ _ _ _ _ us hl=>match us,hl with | [_,_,_],_=>rfl
 have cLTiesIn:=h37.cal l.prog w base X G (λF=>x9 F B) λ_ _ _ _ _ _ us hl=>match us,hl with | [_,_],_=>rfl
 have cLPart:=h33.cal l.prog w base X G (λF=>BB F B) λ_ _ _ _ _ _ us hl=>match us,hl with | [_,_],_=>rfl
 have cLLowest:=h35.cal l.prog w base X G (λF=>x8 F B cLPart) λ_ _ _ _ _ _ us hl=>match us,hl with | [_,_],_=>rfl
 have cLLayerTakes:=h43.cal l.prog w base X G (λF=>oy F B cLTiesIn cLLowest) λ_ _ _ _ _ _ us hl=>match us,hl with | [_,_],_=>rfl
 have cLPlus:=h36.cal l.prog w base X G (λF=>BD F B cLLowest) λ_ _ _ _ _ _ us hl=>match us,hl with | [_,_],_=>rfl
 have cLTotal:=h44.cal l.prog w base X G (λF=>Au F B cLPlus) λ_ _ _ _ _ _ us hl=>match us,hl with | [_],_=>rfl
 have cLPaperTakes:=h45.cal l.prog w base X G (λF=>oz F B cLLayerTakes cLTotal) λ_ _ _ _ _ _ us hl=>match us,hl with | [_,_],_=>rfl
 have cLSomePlaces:=h39.cal l.prog w base X G (λF=>ox F B cLTake) λ_ _ _ _ _ _ us hl=>match us,hl with | [_,_],_=>rfl
 have cLBig:=h30.cal l.prog w base X G (λF=>Dd F B cLTake) λ_ _ _ _ _ _ us hl=>match us,hl with | [_],_=>rfl
 have cLShare:=h40.cal l.prog w base X G (λF=>Aa F B cLLowest cLTake cLBig) λ_ _ _ _ _ _ us hl=>match us,hl with | [_],_=>rfl
 have cLBase:=h38.cal l.prog w base X G (λF=>BI F B cLTiesIn) λ_ _ _ _ _ _ us hl=>match us,hl with | [_,_],_=>rfl
 have cNearLists:=h8.cal l.prog w base X G (λF=>Bw F z_range z_set z_sorted) λ_ _ _ _ _ _ us hl=>match us,hl with | [_],_=>rfl
 have cShortestOf:=h18.cal l.prog w base X G (λF=>qD F B) λ_ _ _ _ _ _ us hl=>match us,hl with | [_],_=>rfl
 have cRingForm:=h15.cal l.prog w base X G (λF=>uJ F B) λ_ _ _ _ _ _ us hl=>match us,hl with | [_],_=>rfl
 have cWayAbout:=h16.cal l.prog w base X G (λF=>uK F B) λ_ _ _ _ _ _ us hl=>match us,hl with | [_,_,_],_=>rfl
 have cTieOf:=h7.cal l.prog w base X G (λF=>Ed F z_max z_min) λ_ _ _ _ _ _ us hl=>match us,hl with | [_,_],_=>rfl
 have cTiedTimes:=h9.cal l.prog w base X G (λF=>Bz F cTieOf) λ_ _ _ _ _ _ us hl=>match us,hl with | [_,_,_],_=>rfl
 have cRingAlong:=h17.cal l.prog w base X G (λF=>sJ F B cWayAbout cTiedTimes) λ_ _ _ _ _ _ us hl=>match us,hl with | [_,_,_],_=>rfl
 have cLeastAlong:=h19.cal l.prog w base X G (λF=>qE F B cNearLists cShortestOf cRingForm cRingAlong) λ_ _ _ _ _ _ us hl=>match us,hl with | [_,_],_=>rfl
 have cLeastRing:=h20.cal l.prog w base X G (λF=>sO F B cLeastAlong) λ_ _ _ _ _ _ us hl=>match us,hl with | [_],_=>rfl
 have cCutWeb:=h13.cal l.prog w base X G (λF=>Eg F B) λ_ _ _ _ _ _ us hl=>match us,hl with | [_,_],_=>rfl
 have cLAnyRing:=h41.cal l.prog w base X G (λF=>uQ F B cLTiesIn cLTake) λ_ _ _ _ _ _ us hl=>match us,hl with | [_,_,_],_=>rfl
 have cLLayer:=h42.cal l.prog w base X G (λF=>Ao F B cLSomePlaces cLShare cLBase cLTake cLeastRing cCutWeb cRingForm cLAnyRing) λ_ _ _ _ _ _ us hl=>match us,hl with | [_,_],_=>rfl
 have cCommonDivisor:=h1.cal l.prog w base X G (λF=>lX F B) λ_ _ _ _ _ _ us hl=>match us,hl with | [_,_],_=>rfl
 obtain ⟨cRatioOf,cRatioOfD⟩:=h2.cals l.prog w base X G (λF=>xY F B cCommonDivisor) (ps:=["top", "bottom"]) (λT kV doc pm an td cdv ct tc tt tn ts dd=>⟨λs us kin hl=>by
  rw[FQ] at hl ⊢
  match us,hl with
  | [_,_],_=>exact M6 kin rfl dd rfl rfl rfl,λs us kin hl=>by
  have h1:us.length=1:=by
   rw[EE] at hl
   have e:us.length+1=2:=hl
   omega
  match us,h1 with
  | [_],_=>exact M6 kin rfl dd rfl rfl rfl⟩)
 have cRatioPlus:=h3.cal l.prog w base X G (λF=>sT F B cRatioOf) λ_ _ _ _ _ _ us hl=>match us,hl with | [_,_],_=>rfl
 have cIsRing:=h14.cal l.prog w base X G (λF=>Ar F B cTiedTimes) λ_ _ _ _ _ _ us hl=>match us,hl with | [_,_],_=>rfl
 have cIsFormedRing:=h24.cal l.prog w base X G (λF=>nR F B cIsRing cRingForm) λ_ _ _ _ _ _ us hl=>match us,hl with | [_,_],_=>rfl
 have cTiesAmong:=h21.cal l.prog w base X G (λF=>sY F B) λ_ _ _ _ _ _ us hl=>match us,hl with | [_,_],_=>rfl
 have cIsRising:=h11.cal l.prog w base X G (λF=>uU F B) λ_ _ _ _ _ _ us hl=>match us,hl with | [_],_=>rfl
 have cIsSetOf:=h12.cal l.prog w base X G (λF=>yc F B cIsRising) λ_ _ _ _ _ _ us hl=>match us,hl with | [_,_],_=>rfl
 have cIsTiedSet:=h25.cal l.prog w base X G (λF=>tD F B cTiesAmong cIsSetOf) λ_ _ _ _ _ _ us hl=>match us,hl with | [_,_],_=>rfl
 have cIsRatio:=h6.cal l.prog w base X G (λF=>x6 F B cCommonDivisor) λ_ _ _ _ _ _ us hl=>match us,hl with | [_],_=>rfl
 have cRatioLess:=h5.cal l.prog w base X G (λF=>sR F B) λ_ _ _ _ _ _ us hl=>match us,hl with | [_,_],_=>rfl
 have cIsLayer:=h26.cal l.prog w base X G (λF=>ye Z F B cIsFormedRing cIsTiedSet cIsRatio cRatioLess) λ_ _ _ _ _ _ us hl=>match us,hl with | [_,_],_=>rfl
 have cRatioTimes:=h4.cal l.prog w base X G (λF=>qG F B cRatioOf) λ_ _ _ _ _ _ us hl=>match us,hl with | [_,_],_=>rfl
 have cTiesWithin:=h10.cal l.prog w base X G (λF=>qM F B) λ_ _ _ _ _ _ us hl=>match us,hl with | [_,_],_=>rfl
 have cLayerBound:=h23.cal l.prog w base X G (λF=>qP F B cRatioTimes cRatioOfD cTiesWithin) λ_ _ _ _ _ _ us hl=>match us,hl with | [_,_],_=>rfl
 have cLayerTakes:=h22.cal l.prog w base X G (λF=>qN Z F B cTiesAmong cRatioTimes cRatioOfD) λ_ _ _ _ _ _ us hl=>match us,hl with | [_,_],_=>rfl
 have cPaperBound:=h27.cal l.prog w base X G (λF=>qY Z F B cRatioPlus cIsLayer cLayerBound cRatioLess cRatioOfD cLayerTakes) λ_ _ _ _ _ _ us hl=>match us,hl with | [_,_,_],_=>rfl
 have cLAllSets:=h48.cal l.prog w base X G (λF=>uZ F B) λ_ _ _ _ _ _ us hl=>match us,hl with | [_],_=>rfl
 have cLWhole:=h32.cal l.prog w base X G (λF=>zY F B) λ_ _ _ _ _ _ us hl=>match us,hl with | [_],_=>rfl
 have cLIsRatio:=h34.cal l.prog w base X G (λF=>uM F B cLWhole cLPart) λ_ _ _ _ _ _ us hl=>match us,hl with | [_],_=>rfl
 have cLIsWood:=h46.cal l.prog w base X G (λF=>yi F B) λ_ _ _ _ _ _ us hl=>match us,hl with | [_,_],_=>rfl
 have cLClears:=h47.cal l.prog w base X G (λF=>yk F B cLIsWood) λ_ _ _ _ _ _ us hl=>match us,hl with | [_,_],_=>rfl
 have cLWeight:=h49.cal l.prog w base X G (λF=>yq F B) λ_ _ _ _ _ _ us hl=>match us,hl with | [_,_],_=>rfl
 exact Eu F50 B cLDeal cLWeb cLPaperTakes cLLayer cPaperBound cLAllSets cLTake cLIsRatio cLClears cLWeight
theorem walk {l:PySem.W.OpenLaw}{q:EV}{loose:List Str}{XP:(Str->Option EB)->Heap->Prop}{YP:Fm->Heap->Prop}{d:DefRec}{K:Params->Ez}(hn:l.most=some 63)(hdf:d.params.defaults=[])
  (hY:∀(w:Fm) (h:Heap),YP w h->(K w.params).In h)
  (F:∀(w:Fm) (mg:Str->Option EB) (fa:Addr) (h:Heap),(K w.params).In h->h.Ns Fx mg->mg d.name=some (.ref fa) →
   ∃fd:Fi,(∀(s:EG) (u:EB),BindsTo s fd ⟨[u],[]⟩ [("script",u)])/\∀base:Heap,(K w.params).In base->base.Ns Fx mg->aV l.prog w (K w.params) mg base CX0 7 fa fd ["script"] (tK (K w.params))) :
  PySem.W.WalkO q loose XP YP l.row.toRowW d [] (λf vs=>PySem.call f vs) :=
 L2.AZ (n:=63) (k:=7) (x := "script") (CX:=λ_=>CX0) (sp:=λw=>tK (K w.params)) hn (by decide) hdf ⟨rfl,by decide,by decide⟩ hY F (λ_ _ a ns hl _ hS=>⟨a,ns,rfl,hS,hl,λ_=>rfl⟩) λ_ _ _ _ _ z=>z
end K40
def PySem.W.Fast.tw9531352010674957272:Nat:=0
def PySem.W.Fast.tw11133870123091860435:Nat:=0
def PySem.W.Fast.tw15733586838568205324:Nat:=0
def PySem.W.Fast.tw664003504209681303:Nat:=0
def PySem.W.Fast.tw7576471832672245794:Nat:=0
def PySem.W.Fast.tw6686358719931872771:Nat:=0
def PySem.W.Fast.tw5138048790975539636:Nat:=0
def PySem.W.Fast.tw8749678593498099862:Nat:=0
def PySem.W.Fast.tw15810170663448359572:Nat:=0
def PySem.W.Fast.tw10275842529274980423:Nat:=0
def PySem.W.Fast.tw13259776257814251581:Nat:=0
def PySem.W.Fast.tw6976258609926211017:Nat:=0
def PySem.W.Fast.tw14741427696987521172:Nat:=0
def PySem.W.Fast.tw1121853472726635489:Nat:=0
def PySem.W.Fast.tw16747843640564995504:Nat:=0
def PySem.W.Fast.tw8296721956670248965:Nat:=0
def PySem.W.Fast.tw7406904204928503751:Nat:=0
def PySem.W.Fast.tw7548205764780516441:Nat:=0
def PySem.W.Fast.tw13397227813513024514:Nat:=0
def PySem.W.Fast.tw4712993206748427265:Nat:=0
def PySem.W.Fast.tw18321892074508031354:Nat:=0
def PySem.W.Fast.tw13634472317624443219:Nat:=0
def PySem.W.Fast.tw13317793416140674433:Nat:=0
def PySem.W.Fast.tw1579905572237058298:Nat:=0
def PySem.W.Fast.tw12528455771396246902:Nat:=0
def PySem.W.Fast.tw11687981258562167403:Nat:=0
def PySem.W.Fast.tw5539018420423926848:Nat:=0
def PySem.W.Fast.tw2854344032291989333:Nat:=0
def PySem.W.Fast.tw4538116282726476187:Nat:=0
def PySem.W.Fast.tw2874031647077961009:Nat:=0
def PySem.W.Fast.tw18391393876332599568:Nat:=0
def PySem.W.Fast.tw21122484402732865:Nat:=0
def PySem.W.Fast.tw10087113665414202960:Nat:=0
def PySem.W.Fast.tw14221405994021092242:Nat:=0
def PySem.W.Fast.tw17348560505368105999:Nat:=0
def PySem.W.Fast.tw8147957122432060551:Nat:=0
def PySem.W.Fast.tw3913643160423421337:Nat:=0
def PySem.W.Fast.tw3692244349246059478:Nat:=0
def PySem.W.Fast.tw14899886250433779623:Nat:=0
def PySem.W.Fast.tw988125043165461643:Nat:=0
def PySem.W.Fast.tw16346771259793234204:Nat:=0
def PySem.W.Fast.tw6587694714449824940:Nat:=0
def PySem.W.Fast.tw3314120184148241340:Nat:=0
def PySem.W.Fast.tw8196978111242203623:Nat:=0
def PySem.W.Fast.tw370392499644944801:Nat:=0
def PySem.W.Fast.tw7276995792433874594:Nat:=0
def PySem.W.Fast.tw16853916361467921052:Nat:=0
def PySem.W.Fast.tw15343441316695856067:Nat:=0
def PySem.W.Fast.tw14847946308341276736:Nat:=0
def PySem.W.Fast.tw12576650146725034907:Nat:=0
def PySem.W.Fast.tw17753047977578375478:Nat:=0
def PySem.W.Fast.tw10925041458692745168:Nat:=0
def PySem.W.Fast.tw6377153764578537775:Nat:=0
def PySem.W.Fast.tw8849217064845068389:Nat:=0
def PySem.W.Fast.tw1231343808504626105:Nat:=0
def PySem.W.Fast.tw3014173602308530689:Nat:=0
def PySem.W.Fast.tw17194001555159035042:Nat:=0
def PySem.W.Fast.tw10233435544227609990:Nat:=0
def PySem.W.Fast.tw8486695651109455280:Nat:=0
def PySem.W.Fast.tw2350981671520844627:Nat:=0
def PySem.W.Fast.tw17440730218139424930:Nat:=0
def PySem.W.Fast.tw15330919457310876620:Nat:=0
def PySem.W.Fast.tw5339849375025215467:Nat:=0
def PySem.W.Fast.tw2974567040923609830:Nat:=0
def PySem.W.Fast.tw13401171830411769443:Nat:=0
def PySem.W.Fast.tw15376710283821080576:Nat:=0
def PySem.W.Fast.tw12796450403973657633:Nat:=0
def PySem.W.Fast.tw16317537508515836828:Nat:=0
def PySem.W.Fast.tw6420915295612033476:Nat:=0
def PySem.W.Fast.tw7707548105985920149:Nat:=0
def PySem.W.Fast.tw5920661272651123453:Nat:=0
def PySem.W.Fast.tw9550144032358237314:Nat:=0
def PySem.W.Fast.tw8497096301603994774:Nat:=0
def PySem.W.Fast.tw6421605981387340764:Nat:=0
def PySem.W.Fast.tw8833383649943349450:Nat:=0
def PySem.W.Fast.tw2997864145301054783:Nat:=0
def PySem.W.Fast.tw11286160021946297777:Nat:=0
def PySem.W.Fast.tw8914164923284646870:Nat:=0
def PySem.W.Fast.tw15695932846721180446:Nat:=0
def PySem.W.Fast.tw8720747051126253469:Nat:=0
def PySem.W.Fast.tw60829833376566104:Nat:=0
def PySem.W.Fast.tw10092600306006980061:Nat:=0
def PySem.W.Fast.tw16374819021873598893:Nat:=0
def PySem.W.Fast.tw17012208551205065766:Nat:=0
def PySem.W.Fast.tw16246968220894488183:Nat:=0
def PySem.W.Fast.tw6943539192199489337:Nat:=0
def PySem.W.Fast.tw1249697287376388339:Nat:=0
def PySem.W.Fast.tw6028896966466987240:Nat:=0
def PySem.W.Fast.tw4957655608993445939:Nat:=0
def PySem.W.Fast.tw3220789952601454569:Nat:=0
def PySem.W.Fast.tw10165006747058076446:Nat:=0
def PySem.W.Fast.tw13229523214893650401:Nat:=0
def PySem.W.Fast.tw6481420775248124169:Nat:=0
def PySem.W.Fast.tw10833310697700733901:Nat:=0
def PySem.W.Fast.tw16587635013038331766:Nat:=0
def PySem.W.Fast.tw12128614331377158519:Nat:=0
def PySem.W.Fast.tw9512069816224111513:Nat:=0
def PySem.W.Fast.tw10004879570106445018:Nat:=0
def PySem.W.Fast.tw6628213713220879476:Nat:=0
def PySem.W.Fast.tw11289208594535185069:Nat:=0
def PySem.W.Fast.tw13743582789216139523:Nat:=0
def PySem.W.Fast.tw12490087228760489494:Nat:=0
def PySem.W.Fast.tw11856215976590525282:Nat:=0
def PySem.W.Fast.tw8627244978808136447:Nat:=0
def PySem.W.Fast.tw17300730485753856840:Nat:=0
def PySem.W.Fast.tw6952892376656351008:Nat:=0
def PySem.W.Fast.tw8869209032766148695:Nat:=0
def PySem.W.Fast.tw2808227570685912840:Nat:=0
def PySem.W.Fast.tw11178810165990229536:Nat:=0
def PySem.W.Fast.tw1020429151428872237:Nat:=0
def PySem.W.Fast.tw9279780683557289301:Nat:=0
def PySem.W.Fast.tw12140069151833783676:Nat:=0
def PySem.W.Fast.tw17325615892355939395:Nat:=0
def PySem.W.Fast.tw5359323695764901982:Nat:=0
def PySem.W.Fast.tw11606995212848079520:Nat:=0
def PySem.W.Fast.tw5908085874632077067:Nat:=0
def PySem.W.Fast.tw1266217769121556602:Nat:=0
def PySem.W.Fast.tw13699227111718024744:Nat:=0
def PySem.W.Fast.tw11868195893388236803:Nat:=0
def PySem.W.Fast.tw13994171873103529780:Nat:=0
def PySem.W.Fast.tw4208751075796280018:Nat:=0
def PySem.W.Fast.tw10119055571719928876:Nat:=0
def PySem.W.Fast.tw2736015114103177359:Nat:=0
def PySem.W.Fast.tw13479378269508347567:Nat:=0
def PySem.W.Fast.tw6930774137600164762:Nat:=0
def PySem.W.Fast.tw13764609624597561116:Nat:=0
def PySem.W.Fast.tw2732320894034260560:Nat:=0
def PySem.W.Fast.tw18065208390063014229:Nat:=0
def PySem.W.Fast.tw7549451272395524103:Nat:=0
def PySem.W.Fast.tw4230582423700417834:Nat:=0
def PySem.W.Fast.tw1943168557485850647:Nat:=0
def PySem.W.Fast.tw14245163832377798018:Nat:=0
def PySem.W.Fast.tw5499021131927435460:Nat:=0
def PySem.W.Fast.tw7745588834459388891:Nat:=0
def PySem.W.Fast.tw16488949173911258341:Nat:=0
def PySem.W.Fast.tw1640575540146901163:Nat:=0
def PySem.W.Fast.tw8975734956815541036:Nat:=0
def PySem.W.Fast.tw4132934516206831900:Nat:=0
def PySem.W.Fast.tw8650274340149466262:Nat:=0
def PySem.W.Fast.tw11429210260247032088:Nat:=0
def PySem.W.Fast.tw4831778188491678681:Nat:=0
def PySem.W.Fast.tw984940456738772835:Nat:=0
def PySem.W.Fast.tw14883069833034055675:Nat:=0
def PySem.W.Fast.tw11191692558923265447:Nat:=0
def PySem.W.Fast.tw10631846134363410944:Nat:=0
def PySem.W.Fast.tw9492769937470027138:Nat:=0
def PySem.W.Fast.tw4994850397533763635:Nat:=0
def PySem.W.Fast.tw13658009103278299868:Nat:=0
def PySem.W.Fast.tw1121008873532137331:Nat:=0
def PySem.W.Fast.tw17485509713717333203:Nat:=0
def PySem.W.Fast.tw9508229087418475306:Nat:=0
def PySem.W.Fast.tw15217517151895143931:Nat:=0
def PySem.W.Fast.tw10370484134352486303:Nat:=0
def PySem.W.Fast.tw12899995627573444897:Nat:=0
def PySem.W.Fast.tw12197955044872813026:Nat:=0
def PySem.W.Fast.tw18094551827994728338:Nat:=0
def PySem.W.Fast.tw11545074860947830387:Nat:=0
def PySem.W.Fast.tw13663451407358953471:Nat:=0
def PySem.W.Fast.tw11850554925638892243:Nat:=0
def PySem.W.Fast.tw4643254800492891019:Nat:=0
def PySem.W.Fast.tw16192197063638385802:Nat:=0
def PySem.W.Fast.tw16971831035040201032:Nat:=0
def PySem.W.Fast.tw12977693039643786641:Nat:=0
def PySem.W.Fast.tw4786763940420593024:Nat:=0
def PySem.W.Fast.tw5693569087250283457:Nat:=0
def PySem.W.Fast.tw12228644715580354330:Nat:=0
def PySem.W.Fast.tw14795179774172806052:Nat:=0
def PySem.W.Fast.tw9713305132465357693:Nat:=0
def PySem.W.Fast.tw14897135107000182340:Nat:=0
def PySem.W.Fast.tw9923910661309664853:Nat:=0
def PySem.W.Fast.tw16403280518328349334:Nat:=0
def PySem.W.Fast.tw15474821335765784403:Nat:=0
def PySem.W.Fast.tw8480981935989597391:Nat:=0
def PySem.W.Fast.tw6715578213837966721:Nat:=0
def PySem.W.Fast.tw12232092360232733211:Nat:=0
def PySem.W.Fast.tw8171383021942977865:Nat:=0
def PySem.W.Fast.tw7992453793148160079:Nat:=0
open PySem PySem.W PyProof.Rows
set_option maxRecDepth 100000 in
set_option maxHeartbeats 0 in
theorem PySem.Challenge.cw_ringfell_k40_whole_papers_bound_all_holds : PySem.Challenge.rw_ringfell_k40_whole_papers_bound_all.Holds := by
 w_on;o_law;k_head;(case hw=>w_witness2)
 k_fill
 refine K40.walk (l:=PySem.Challenge.rw_ringfell_k40_whole_papers_bound_all) rfl rfl (λw h Y=>PySem.W.kIn_of Y) ?F
 case F =>
  intro w mg fa h KX G hmg
  refine' K40.all_mk KX G hmg ?_ ?_ ?_ ?_ ?_ ?_ ?_ ?_ ?_ ?_ ?_ ?_ ?_ ?_ ?_ ?_ ?_ ?_ ?_ ?_ ?_ ?_ ?_ ?_ ?_ ?_ ?_ ?_ ?_ ?_ ?_ ?_ ?_ ?_ ?_ ?_ ?_ ?_ ?_ ?_ ?_ ?_ ?_ ?_ ?_ ?_ ?_ ?_ ?_ ?_ ?_ ?_ ?_ ?_ ?_ ?_ ?_ ?_ ?_ ?_ ?_ ?_ ?_ ?_ ?_ ?_ ?_ ?_ ?_ ?_
  any_goals k_is
  any_goals (refine' L2.xT.mk ?a ?l ?c ?k ?t;(case a=>k_is);(case l=>k_is);(case c=>k_is);(case k=>k_is);(case t=>k_is))
  any_goals (refine' L2.a9.mk ?a ?l ?c ?k;(case a=>k_is);(case l=>k_is);(case c=>k_is);(case k=>k_is))
  all_goals kernel_rfl
