import PyProof.Rows.All
import Wide.All
import OpenK.AllK
import Wide.FinOn
import Lean
import PyProof.EqAt
import PyProof.EqKinds
import PyProof.TupleCall
import KE.KRevIter
import PyProof.MinMaxWalk
import PySem.Challenge.RW_ringfell_k57_ranks_and_knots
open List renaming length_map → AN,getElem?_eq_getElem → AQ,length_append → AR,getElem?_eq_some_iff → AW,size_toArray → AX,mem_singleton → AZ,map_append → A3,getElem?_map → A4,getD_eq_getElem?_getD → A6,mem_append → A7,mem_of_getElem? → A8,take_of_length_le → Bb,mem_cons_self → Be,mem_map → Bh,mem_iff_getElem? → Bj,mem_append_right → Bn,mem_cons_of_mem → Br,mem_cons → Bs,range → Bw,mem_append_left → BD,map_cons → BF,take_add_one → BG,getElem?_append_left → BK,getElem?_append_right → BN,length_cons → BP,append_assoc → BV,pairwise_map → BW,length_take → B4,append_nil → B7,length_singleton → Ca,mem_filter → Ce,mem_range → Cg,getElem?_toArray → Cj,pairwise_append → Cn,length_drop → Co,nodup_cons → Cq,getElem?_eq_none → Cr,drop_sublist → Cw,pairwise_cons → CA,nodup_nil → CB,all_eq_true → CD,take_append_of_le_length → CG,take_sublist → CH,getElem?_zip_eq_some → CI,pairwise_singleton → CO,extract_eq_take_drop → CV,take_append_drop → C1,getElem?_drop → Dc,getElem?_take → Dd,filter_cons_of_pos → Df,filter_cons_of_neg → Dg,getElem_mem → Dh,getElem?_set_self → Dj,length_range → Dm,perm_append_comm → Dp,getElem?_take_of_lt → Ds,filter_append → Dt,not_mem_nil → Dw,mem_of_mem_take → Dz,getElem?_cons_succ → DB,map_map → DD,nodup_append → DE,length_filter_le → DP,pairwise_iff_getElem → DQ,getElem?_eq_none_iff → DR,getElem?_set_ne → DT,idxOf_lt_length_iff → D1,length_reverse → D9,getElem?_range → Ea,pairwise_lt_range → Eh,find?_cons → Ej,any_cons → Ek,mem_of_mem_drop → En,drop_zero → Ep,lookup_cons → Et,ext_getElem → Eu,filterMap_cons → Ew,reverse_append → Ey,getElem_of_mem → Ez,length_pos_iff → EA,mem_filterMap → EJ,getElem?_replicate → EK,eraseIdx_cons_succ → EN,nil_append → ER,length_eq_zero_iff → ET,length_zip → EU,length_nil → EV,eraseIdxIfInBounds_toArray → E6,ext_getElem? → E7,drop_append_of_le_length → Fl,eq_nil_of_length_eq_zero → Fp,mem_map_of_mem → FD,perm_ext_iff_of_nodup → FK,set_set → FN,drop_eq_getElem_cons → FV,take_zero → FX,drop_left → FY,flatten_cons → F7,find?_range_eq_none → F8,getElem?_inj → Gb,map_take → Gh,countP_cons → Gq,range'_succ → Gs,map_fst_zip → Gu,drop_eq_nil_of_le → Gz,of_mem_zip → GF,length_replicate → GG,map_nil → GH,length_set → GI,contains_iff_mem → GQ,eraseIdx_sublist → GV,filterMap_append → GW,reverse_reverse → G6,length_eraseIdx → G7,count_cons_self → G8,filterMap_map → Hq,zip_cons_cons → Hw,map_drop → Hy,getElem_idxOf → HD,getElem_range → HE,reverse_cons → HS,all_map → Ie,perm_middle → Iq,nodup_range → Ir,getElem_map → Iy,foldl_cons → IA,count_cons → IE,range_succ → IJ,drop_drop → IU,take_succ → IV,replicate → IW,all_cons → Jd
open PySem renaming wpAny_bind → AO,Value → AS,wpAny_pure → AV,Shared → A1,sizeLine → Ba,Program → Bi,wpAny → Bv,model → BJ,World → BQ,codeAny_builtin → BR,wpAny_holding → B8,wpAny_newObj_type → B9,Around → Cc,FuncData → Cd,mainGlobals → Cf,starEach → Cm,plainId_quiet → Ct,bootBuiltins → Cu,wpAny_updateSeq → CN,compareOp → CP,wpAny_truthy_bool → C3,wpAny_tryCatch → C6,wpAny_typeOf → Dr,wpAny_call_entry → Dx,wpAny_mono → DF,mem_of_lookup → DI,wpAny_seqItems → DS,wpAny_passesOwn → D2,wpAny_rule → D3,wpAny_callSpecial?_slot → Ed,richCompare_meets_room → Ei,wpAny_runValue → Es,sizeLine_eq → EB,wpAny_letGo → EC,codeAny_mono → EH,wpAny_Call_Name_kw → EZ,backTo → E4,wpAny_pyIter_list → Fd,call_meets → Fe,codeAny → Ff,holding → Fg,wpAny_forIn_list → Ft,codeAny_call_builtin → Fv,wpAny_standAt → Fx,wpAny_newList → Fy,intItems → Fz,wpAny_execs_nil → FE,wpAny_field → FF,wpAny_specialOf → FG,wpAny_pyIter_tuple → FP,wpAny_setField_rec → FR,tupleKind_room_in1 → FT,isSubtype_type → F2,wpAny_sequenceKey → Ge,intKind_is → Gf,numAt_eq → Gn,noFill_tuple_add → Gv,wpAny_askSetting → Gw,wpAny_isInstance → Gx,wpAny_Call_method_late → GD,wpAny_isTrue_Compare1 → GX,concat_meets → GY,wpAny_eqIsQuiet_tuple → GZ,codeAny_of_tree → G1,weight_type_call_type → G2,wpAny_load → G4,rawInt → Hf,wpAny_of_eq → Hk,wpAny_setEntries_of → Hl,rangeSize_one → HF,seq_tuple_add → HG,evalPart_none → HI,wpAny_attempt → HL,wpAny_eqBool_tuple → HM,wpAny_evalAll_cons → HP,wpAny_call → Ia,seqIndex_neg → Ig,seqIndex_of → IK,intItems_at → IM,wpAny_Name → Jb,typeIs_int → Jc
open PySem.Heap renaming get?_push_of_some → AU,lt_size → Bc,get?_push_size → Bd,get?_update_other → BB,get?_update_self → Ci,size_push → DC,get?_update_ne → Hh
open Nat renaming le_refl → AY,lt_of_lt_of_le → Bm,ne_of_lt → Bz,le_trans → BL,zero_le → BX,lt_irrefl → Cp,lt_succ_of_lt → Cy,le_of_lt → CK,lt_succ_self → CZ,le_add_right → Dv,le_sub_one_of_lt → DA,zero_add → DN,le_succ_of_le → DW,lt_of_succ_lt → DX,le_of_lt_succ → DY,not_lt_zero → DZ,ne_of_gt → D5,lt_or_ge → D6,add_sub_cancel_left → D8,lt_of_not_le → Ee,eq_zero_of_not_pos → Ef,add_le_add_left → Ex,succ_pos → EE,lt_of_le_of_lt → EO,le_antisymm → ES,eq_zero_or_pos → EX,lt_of_succ_lt_succ → E3,mod_lt → E9,le_of_not_lt → Fj,sub_one_lt_of_lt → Fu,lt_trichotomy → Gd,le_succ → Gg,succ_le_succ → Gp,le_of_sub_eq_zero → GL,min_self → GN,sub_self → GP,lt_of_le_of_ne → Hv,sub_pos_of_lt → HU,le_of_succ_le → HV,sub_zero → Ic,min_le_right → Il,le_zero → II,add_assoc → Je
open PySem.W renaming Frag → A0,mg_none_of → Ck,nsIn → CS,kia_one → CU,cellsFrom_some → Gy,kat_nil → GO,kitx_list → HQ,kitx_dict → HR,mg_of → Jg
open Array renaming length_toList → A5,getElem?_toList → A9,getElem?_eq_getElem → BE,mem_toList_iff → BM,toList_append → B1,size_map → B6,getD_eq_getD_getElem? → De,getElem?_eq_some_iff → Di,toList_push → Dl,toList_extract → Dy,toList_reverse → DU,size_push → DV,getElem?_eq_none → Eg,size_append → Em,getElem_mem → Fb,toList_inj → Fm,toList_map → Fn,toList_setIfInBounds → FI,perm_iff_toList_perm → FJ,size_setIfInBounds → F6,getElem?_replicate → Ga,getElem?_map → Hz,forIn_toList → HA
open Bool renaming false_ne_true → Bf,false_eq_true → Bk,and_eq_true → Cv,not_true → CL,eq_iff_iff → C8,eq_false_iff → E8,false_and → FU,and_false → G9,not_false → Hc,false_or → HC,or_false → Jf
open PyProof.Rows renaming wpS_bind → Bg,Keyed → Bp,wpS_pure → Bq,arrOf → Bx,pendingOf → BI,SortSt → BO,slot_tuple_getitem → B3,wpS_forRange → CC,wpS_mono → Dn,wpS_modify → DG,IntsAre → DL,reverseSlice'_eq → Fq,KeyOrd → Fw,callWith_type1 → FA,args_tuple_getitem → FQ,slicePart_none → F0,wpS_get → F1,wpS_lift → Gm,subscriptTail_builtinR → GC,args_list_sort → Hd,sortedHeap_old → He,getElem?_mirror_all → Hj,tupleItemsOf_ → HH,listUpdate_at → HJ,sortedHeap_at → HK,isInt_at → HN,size_push' → Ib,listItems_at → Ih,plain_sorted → Ii,entry_sorted → Ij,args_sorted1 → Ik,kind_sorted → IL
open PySem.Value renaming ref → Bl,int → CQ,type → DH,none → DM,isInt_shape → E5
open PySem.F renaming plainAttrs_list → Bt,slot_list_append → BS,type_list_append → BU,plain_min_loop → B5,called_set → CM,slot_tuple_index → C2,entry_min_loop → Dk,type_tuple_index → Du,plain_extend_loop → Ec,args_tuple_add_2 → ED,slot_list_remove → EG,entry_tuple_add → EL,slot_list_index → EY,slot_tuple_add → E1,plain_list_iadd → Fc,slot_list_pop → Fh,type_list_pop → Fi,args_list_remove_2 → FL,entry_list_remove → FZ,plain_list_iadd → Gj,type_list_index → Gk,typeCall_set_1 → GA,entry_proto_collect → GR,plain_proto_collect → GS,entry_extend_loop → Hi,entry_type_call → HW,entry_list_iadd → HX,entry_list_pop → Ip,entry_set_init → Iu,args_list_ne_2 → Iv,args_list_eq_2 → Iw,slot_list_pop → Iz,plain_set_new → IC,slot_set_iter → ID,entry_list_ne → IG,entry_list_eq → IH
open Classical renaming byContradiction → BA
open Option.some renaming inj → BC
open PySem.Around renaming under_plainId → BH,under_plain → HB
open PySem.PassesOwn renaming never → BZ
open PyProof.Rows.KeyOrd renaming kle_trans → B0,kle_of_klt → CJ,kle_refl → C9,kle_antisymm → Hg
open Int renaming toNat_natCast → B2,emod_lt_of_pos → EW,emod_nonneg → FC,le_antisymm → GU
open PySem.Builtin.List renaming listExtendWith → Cz,listLengthHint → DJ,listSameRef → D4
open PySem.Obj renaming mapSeq → CT
open Iff renaming rfl → CW
open List.Perm renaming append_left → C0,append_right → DK,refl → Eo
open Ne renaming symm → C7
open List.Nodup renaming length_le_of_subset → Dq
open PySem.Paired renaming length → D7,snoc → Jl
open PyProof.Rows.F renaming plain_set_update_loop → Eb,entry_set_update_loop → Gi
open PySem.Calls renaming call_function_entry → Er,callWith_builtin → E2,Name_function_global → FH,evalArgs_plain → G5
open List.Pairwise renaming imp_of_mem → EF,imp → Jm,and → Jn
open PySem.SeqAt renaming EqAt → EI,notIn_listAt → Hu,in_tupleAt → Io
open PySem.SeqAt.EqAt renaming int_int → EM,same → GJ,int_str → Hm,str_int → Hn,str_str → Ht
open PySem.StrLaws renaming seqIndex_nonneg → Fo
open PySem.Code renaming quiet_builtin → FO
open Option renaming isSome_iff_exists → F3,map_eq_some_iff → GB,map_some → GK,isSome_map → HY,getD_none → Im
open Std.Legacy.Range renaming forIn_eq_forIn_range' → G3
open Prod renaming ext → Ho
open PySem.Heap.IsSliceOf renaming new → Hr
open PySem.SeqAt.RcAt renaming tuples → HZ
open PySem.EqMixed renaming eq_bool_str → IP,eq_str_bool → IQ,ne_bool_str → IS,ne_str_bool → IT,eq_int_str → IX,eq_str_int → IY,ne_int_str → IZ,ne_str_int → I0
open PySem.Walks renaming list → Ja,tuple → Jk
open PySem.W.Looks renaming of_pure → Jh
open PySem.W.KatTups renaming cons → Ji
open PySem.Moved renaming trans → Jj
set_option Elab.async false
set_option linter.all false
set_option maxRecDepth 100000
namespace L2
open PySem PySem.Spec PyProof.Rows
abbrev Key:=Sum Int Str
def mH:Key->AS->Bool
 | .inl k,v=>Value.isInt k v
 | .inr x,v=>Value.isStrOf x v
def keyH (w:BQ):Key->Int
 | .inl k=>hashInt k
 | .inr x=>hashStr w x
theorem bp:∀{k:Key} {v:AS},mH k v=true->(∃i t,k=Sum.inl i/\v=CQ i t)\/(∃x t,k=Sum.inr x/\v=Value.str x t)
 | .inl i,v,h=>by
  obtain ⟨t,e⟩:=E5 (k:=i) (v:=v) h
  exact .inl ⟨i,t,rfl,e⟩
 | .inr x,v,h=>by
  obtain ⟨t,e⟩:=Value.isStrOf_shape (x:=x) (v:=v) h
  exact .inr ⟨x,t,rfl,e⟩
theorem tS (i:Int)(t:Tok):mH (.inl i) (.int i t)=true:=by simp[mH,Value.isInt]
theorem tU (x:Str)(t:Tok):mH (.inr x) (.str x t)=true:=by simp[mH,Value.isStrOf]
theorem yT (a b:Int):decide ((Sum.inl a:Key)=Sum.inl b)=(a == b):=by
 by_cases e:a=b
 ·subst e;simp
 ·have h:¬ (Sum.inl a:Key)=Sum.inl b:=λq=>e (Sum.inl.inj q)
  rw[decide_eq_false h]
  exact (beq_eq_false_iff_ne.mpr e).symm
theorem yU (a b:Str):decide ((Sum.inr a:Key)=Sum.inr b)=decide (a=b):=by
 by_cases e:a=b
 ·subst e;simp
 ·have h:¬ (Sum.inr a:Key)=Sum.inr b:=λq=>e (Sum.inr.inj q)
  rw[decide_eq_false h,decide_eq_false e]
theorem yV (a:Int)(b:Str):decide ((Sum.inl a:Key)=Sum.inr b)=false:=decide_eq_false (λq=>nomatch q)
theorem yW (a:Str)(b:Int):decide ((Sum.inr a:Key)=Sum.inl b)=false:=decide_eq_false (λq=>nomatch q)
def bD (prog:Bi)(w:BQ):PySem.KeyKind prog w Key where
 is:=mH
 hash:=keyH w
 inj:=λv a b ha hb=>by
  rcases bp ha with ⟨i,t,rfl,rfl⟩ | ⟨x,t,rfl,rfl⟩
  ·rcases bp hb with ⟨j,u,rfl,e⟩ | ⟨y,u,rfl,e⟩
   ·injection e with e1 _;rw[e1]
   ·exact nomatch e
  ·rcases bp hb with ⟨j,u,rfl,e⟩ | ⟨y,u,rfl,e⟩
   ·exact nomatch e
   ·injection e with e1 _;rw[e1]
 byValue:=λk v h=>by
  rcases bp h with ⟨i,t,rfl,rfl⟩ | ⟨x,t,rfl,rfl⟩ <;> rfl
 pyHash:=λhv h=>by
  rcases bp hv with ⟨i,t,rfl,rfl⟩ | ⟨x,t,rfl,rfl⟩
  ·exact wpAny_pyHash_int h
  ·exact wpAny_pyHash_str h
 eqBool:=λhu hv h=>by
  rcases bp hu with ⟨i,t,rfl,rfl⟩ | ⟨x,t,rfl,rfl⟩
  ·rcases bp hv with ⟨j,u,rfl,rfl⟩ | ⟨y,u,rfl,rfl⟩
   ·rw[yT] at h;exact wpAny_eqBool_int h
   ·rw[yV] at h;exact Hm i t y u _ _ _ _ h
  ·rcases bp hv with ⟨j,u,rfl,rfl⟩ | ⟨y,u,rfl,rfl⟩
   ·rw[yW] at h;exact Hn x t j u _ _ _ _ h
   ·rw[yU] at h;exact wpAny_eqBool_str h
 «strs» := λk x t v h=>by
  rcases bp h with ⟨i,u,rfl,e⟩ | ⟨y,u,rfl,e⟩
  ·exact nomatch e
  ·injection e with e1 _
   subst e1
   cases v <;> rfl
theorem oU (prog:Bi)(w:BQ)(i:Int)(t:Tok):(bD prog w).is (.inl i) (.int i t)=true:=tS i t
theorem oV (prog:Bi)(w:BQ)(x:Str)(t:Tok):(bD prog w).is (.inr x) (.str x t)=true:=tU x t
open PySem PySem.Spec PyProof.Rows
inductive V where
 | non | bl (b:Bool) | int (i:Int) | str (x:Str) | byt (b:Array UInt8) | flt (b:UInt64) | ref (a:Addr) | ty (n:String)
 deriving DecidableEq
def RelV:V->AS->Prop
 | .non,u=>u=DM
 | .bl b,u=>u=Value.bool b
 | .int i,u=>∃t,u=CQ i t
 | .str x,u=>∃t,u=Value.str x t
 | .byt b,u=>∃t,u=Value.bytes b t
 | .flt b,u=>∃t,u=Value.float b t
 | .ref a,u=>u=Bl a
 | .ty n,u=>u=DH n
abbrev Vals:List V->List AS->Prop:=Paired RelV
theorem Vals.length {xs:List V}{us:List AS}(r:Vals xs us):xs.length=us.length:=D7 r
theorem Vals.get:∀{xs:List V} {us:List AS} {i:Nat} {x:V},Vals xs us->xs[i]? = some x->∃u,us[i]? = some u/\RelV x u
 | _,_,_,_,.nil,e=>by simp at e
 | _,_,0,_,.cons r _,e=>by simp at e;subst e;exact ⟨_,rfl,r⟩
 | _,_,i+1,x,.cons _ t,e=>by
  obtain ⟨u,h1,h2⟩:=Vals.get (i:=i) (x:=x) t (by simpa using e)
  exact ⟨u,by simpa using h1,h2⟩
theorem Vals.set {x:V}{u:AS}(r:RelV x u):∀{xs:List V} {us:List AS} (i:Nat),Vals xs us->Vals (xs.set i x) (us.set i u)
 | _,_,_,.nil =>.nil
 | _,_,0,.cons _ t =>.cons r t
 | _,_,i+1,.cons q t =>.cons q (Vals.set r i t)
theorem Vals.append:∀{xs ys:List V} {us ws:List AS},Vals xs us->Vals ys ws->Vals (xs++ys) (us++ws)
 | _,_,_,_,.nil,s=>s
 | _,_,_,_,.cons r t,s =>.cons r (Vals.append t s)
theorem Vals.take:∀{xs:List V} {us:List AS} (n:Nat),Vals xs us->Vals (xs.take n) (us.take n)
 | _,_,0,_ =>.nil
 | _,_,_+1,.nil =>.nil
 | _,_,n+1,.cons r t =>.cons r (Vals.take n t)
theorem Vals.drop:∀{xs:List V} {us:List AS} (n:Nat),Vals xs us->Vals (xs.drop n) (us.drop n)
 | _,_,0,r=>r
 | _,_,_+1,.nil =>.nil
 | _,_,n+1,.cons _ t=>Vals.drop n t
def kz:Option V->Option AS->Prop
 | some v,some u=>RelV v u
 | none,none=>True
 | _,_=>False
def KV {κ:Type}:List (κ×V)->List (κ×AS)->Prop:=Paired λ(p:κ×V) (q:κ×AS)=>p.1=q.1/\RelV p.2 q.2
def kV:Key->V
 | .inl i =>.int i
 | .inr x =>.str x
inductive HO where
  | lst (xs:List V)
  | tup (xs:List V)
  | dK (kvs:List (Key×V)) | dT (kvs:List (List Key×V))
  | set (S:Int->Bool) (n:Nat)
  | ins (C dx:Addr) (fs:List (Str×V))
  | own (x:Addr)
  | xd (fs:List (Str×V))
  | met (f x:Addr)
  | rng (lo hi:Int)
  | frz (o:Obj) (u:HO)
  | tbl (ps:Array AS)
  | ext (φ:Heap->Prop)
abbrev Hp:=Addr->Option HO
def upd (H:Hp)(a:Addr)(o:HO):Hp:=λb=>if b=a then some o else H b
theorem ae {H:Hp}{a:Addr}{o:HO}:upd H a o a=some o:=by unfold upd;rw[if_pos rfl]
theorem aj {H:Hp}{a b:Addr}{o:HO}(h:b≠a):upd H a o b=H b:=by unfold upd;rw[if_neg h]
theorem iA {H:Hp}{a b:Addr}{o u:HO}(h:H a=some o)(h':H b=some u)(d:o≠u):a≠b:=by
 intro e;subst e;rw[h] at h';exact d (BC h')
theorem aq {H:Hp}{a b:Addr}{o:HO}(h:H a=some o)(h':H b=none):a≠b:=by
 intro e;subst e;rw[h] at h';cases h'
def cV (h:Heap)(a:Addr)(items:Array AS):Prop:=∃o,h.get? a=some o/\(o.cls = .type "tuple" /\ o.dict=none)/\∃n,o.data = .seq items n
theorem cV.tup {h:Heap}{a:Addr}{items:Array AS}(x:cV h a items):IsTup h a items:=let ⟨o,e,c,n,d⟩:=x;⟨o,e,c.1,n,d⟩
theorem cV.new (h:Heap)(items:Array AS):cV (h.push { cls :=.type "tuple",data :=.seq items }) h.objs.size items:=⟨_,Bd _ rfl,⟨rfl,rfl⟩,_,rfl⟩
section
variable  (P:Bi)(w:BQ)
def aZ (H:Hp)(h:Heap)(a:Addr):HO->Prop
 | .lst xs=>xs.length<=Ba/\∃(its:List AS) (n:Nat),Vals xs its/\h.get? a=some { cls :=.type "list",data :=.seq its.toArray n }
 | .tup xs=>xs.length<=Ba/\∃its:List AS,Vals xs its/\cV h a its.toArray
 | .dK kvs=>kvs.length<=Ba/\(a == sysModules)=false/\∃vs,KV kvs vs/\h.DictOf (bD P w) a vs
 | .dT kvs=>kvs.length<=Ba/\(a == sysModules)=false/\∃xs:List (List Key×Addr×AS),
   Paired (λ(p:List Key×V) (q:List Key×Addr×AS)=>p.1=q.1/\H q.2.1=some (.tup (p.1.map kV))/\RelV p.2 q.2.2) kvs xs ∧
   ∃o es ep,h.get? a=some o/\o.ExactDict/\o.data = .dict es ep/\es.toList=xs.map (entryOfKey (tupleKind (bD P w)))/\(xs.map (·.1)).Nodup
 | .set S n=>h.SetOf (intKind P w) a S n
 | .ins C dx fs=>H dx=some (.own a)/\fs.length<=1000/\dx≠a/\h.get? a=some (PySem.W.instObj C dx) ∧
   ∃mA,h.Ns1 dx mA/\(∀f,kz (fs.lookup f) (mA f))/\PySem.Within mA (fs.map (·.1))
 | .own _=>∃o,h.get? a=some o
 | .xd fs=>∃mA,h.Ns1 a mA/\∀f,kz (fs.lookup f) (mA f)
 | .rng lo hi=>∃t u v,h.get? a=some { cls :=.type "range",data :=.fields #[.int lo t,.int hi u,.int 1 v] }
 | .frz o u=>h.get? a=some o/\aZ H h a u
 | .tbl ps=>h.get? a=some { cls :=.none,data :=.fields ps }
 | .met f x=>h.get? a=some (PySem.W.methodObj (.ref f) (.ref x))
 | .ext φ=>φ h/\(∃o,h.get? a=some o)/\∀h1 h2:Heap, φ h1->(∀o,h1.get? a=some o->h2.get? a=some o) -> φ h2
def HOk (H:Hp)(h:Heap):Prop:=∀a o,H a=some o->aZ P w H h a o
end
section
variable  {P:Bi}{w:BQ}{H H':Hp}{h h':Heap}{a:Addr}{o:HO}
theorem aZ.lt (x:aZ P w H h a o):a<h.objs.size:=by
 cases o with
 | lst xs=>obtain ⟨_,_,_,_,e⟩:=x;exact Bc e
 | tup xs=>obtain ⟨_,_,_,p⟩:=x;exact (cV.tup p).lt
 | dK kvs=>obtain ⟨_,_,_,_,o,_,_,e,_⟩:=x;exact Bc e
 | dT kvs=>obtain ⟨_,_,_,_,o,_,_,e,_⟩:=x;exact Bc e
 | set S n=>obtain ⟨o,_,_,_,e,_⟩:=x;exact Bc e
 | ins C dx fs=>obtain ⟨_,_,_,e,_⟩:=x;exact Bc e
 | own y=>obtain ⟨_,e⟩:=x;exact Bc e
 | xd fs=>obtain ⟨_,⟨_,_,_,e,_⟩,_⟩:=x;exact Bc e
 | rng lo hi=>obtain ⟨_,_,_,e⟩:=x;exact Bc e
 | frz ob u=>obtain ⟨e,_⟩:=x;exact Bc e
 | tbl ps=>exact Bc (show h.get? a=some _ from x)
 | met f y=>exact Bc (show h.get? a=some _ from x)
 | ext φ=>obtain ⟨_,⟨_,e⟩,_⟩:=x;exact Bc e
theorem Paired.yX {α β:Type}{F G:α -> β -> Prop}:∀{l₁:List α} {l₂:List β},Paired F l₁ l₂->(∀a b,F a b->G a b)->Paired G l₁ l₂
 | _,_,.nil,_ =>.nil
 | _,_,.cons r t,f =>.cons (f _ _ r) (Paired.yX t f)
theorem aZ.stay (x:aZ P w H h a o)(k:∀b u,(b=a\/H b=some (.own a))->h.get? b=some u->h'.get? b=some u)
  (ho:∀b,H b=some (.own a)->H' b=some (.own a)) (ht:∀b xs,H b=some (.tup xs)->H' b=some (.tup xs)):aZ P w H' h' a o:=by
 induction o with
 | lst xs=>obtain ⟨z,its,n,r,e⟩:=x;exact ⟨z,its,n,r,k _ _ (.inl rfl) e⟩
 | tup xs=>obtain ⟨z,its,r,ob,e,c⟩:=x;exact ⟨z,its,r,ob,k _ _ (.inl rfl) e,c⟩
 | dK kvs=>obtain ⟨z,y,vs,r,ob,es,ep,e,c⟩:=x;exact ⟨z,y,vs,r,ob,es,ep,k _ _ (.inl rfl) e,c⟩
 | dT kvs =>
  obtain ⟨z,y,xs,r,ob,es,ep,e,c⟩:=x
  exact ⟨z,y,xs,Paired.yX r λp q z=>⟨z.1,ht _ _ z.2.1,z.2.2⟩,ob,es,ep,k _ _ (.inl rfl) e,c⟩
 | set S n=>obtain ⟨ob,es,ep,t,e,c⟩:=x;exact ⟨ob,es,ep,t,k _ _ (.inl rfl) e,c⟩
 | ins C dx fs =>
  obtain ⟨d,z,ne,e,mA,⟨od,es,ep,e2,c⟩,r⟩:=x
  exact ⟨ho _ d,z,ne,k _ _ (.inl rfl) e,mA,⟨od,es,ep,k _ _ (.inr d) e2,c⟩,r⟩
 | own y=>obtain ⟨ob,e⟩:=x;exact ⟨ob,k _ _ (.inl rfl) e⟩
 | xd fs=>obtain ⟨mA,⟨od,es,ep,e,c⟩,r⟩:=x;exact ⟨mA,⟨od,es,ep,k _ _ (.inl rfl) e,c⟩,r⟩
 | rng lo hi=>obtain ⟨t,u,v,e⟩:=x;exact ⟨t,u,v,k _ _ (.inl rfl) e⟩
 | frz ob u ih=>obtain ⟨e,q⟩:=x;exact ⟨k _ _ (.inl rfl) e,ih q⟩
 | tbl ps =>
  have e:h.get? a=some { cls :=.none,data :=.fields ps }:=x
  show h'.get? a=some { cls :=.none,data :=.fields ps }
  exact k a _ (.inl rfl) e
 | met f y =>
  have e:h.get? a=some (PySem.W.methodObj (.ref f) (.ref y)):=x
  show h'.get? a=some (PySem.W.methodObj (.ref f) (.ref y))
  exact k a _ (.inl rfl) e
 | ext φ=>obtain ⟨p,⟨o,e⟩,st⟩:=x;exact ⟨st _ _ p λo q=>k _ _ (.inl rfl) q,⟨o,k _ _ (.inl rfl) e⟩,st⟩
theorem HOk.lt (x:HOk P w H h)(e:H a=some o):a<h.objs.size:=(x a o e).lt
theorem HOk.fresh (x:HOk P w H h)(e:h.objs.size<=a):H a=none:=by
 cases q:H a with
 | none=>rfl
 | some u=>exact absurd (Bm (x.lt q) e) (Cp _)
theorem HOk.kept (x:HOk P w H h)(k:∀b u,h.get? b=some u->h'.get? b=some u):HOk P w H h':=λa o e =>
 (x a o e).stay (λb u _ q=>k b u q) (λ_ q=>q) λ_ _ q=>q
theorem HOk.laid (x:HOk P w H h)(k:∀b u,h.get? b=some u->h'.get? b=some u)(hp:h.objs.size<=a)(new:aZ P w (upd H a o) h' a o):HOk P w (upd H a o) h':=λb u e=>by
 have hn:=x.fresh hp
 by_cases hb:b=a
 ·subst hb;rw[ae] at e;cases e;exact new
 ·rw[aj hb] at e
  exact (x b u e).stay (λc v _ q=>k c v q) (λc q=>by rw[aj (aq q hn)];exact q) λc xs q=>by rw[aj (aq q hn)];exact q
end
def Rd (H:Hp)(a:Addr)(u:HO):Prop:=H a=some u\/∃o,H a=some (.frz o u)
theorem Rd.ok {P:Bi}{w:BQ}{H:Hp}{h:Heap}{a:Addr}{u:HO}(r:Rd H a u)(x:HOk P w H h):aZ P w H h a u:=by
 rcases r with r | ⟨o,r⟩
 ·exact x a u r
 ·obtain ⟨_,q⟩:=x a _ r
  exact q
def Mut:Option HO->Prop
 | some (.lst _)=>True
 | some (.dK _)=>True
 | some (.dT _)=>True
 | some (.set _ _)=>True
 | some (.ins _ _ _)=>True
 | some (.ext _)=>True
 | _=>False
section
variable  {P:Bi}{w:BQ}{H:Hp}{h h':Heap}{x e:Addr}{o':HO}
theorem HOk.write (ok:HOk P w H h)(mu:Mut (H x))(he:e=x\/H e=some (.own x))(k:∀b u,b≠e->h.get? b=some u->h'.get? b=some u)(heo:∃u,h'.get? e=some u)
  (new:aZ P w (upd H x o') h' x o'):HOk P w (upd H x o') h':=λb u q=>by
 have nown:∀c y,H c=some (.own y)->c≠x:=λc y r z=>by subst z;rw[r] at mu;exact mu
 have ntup:∀c xs,H c=some (.tup xs)->c≠x:=λc xs r z=>by subst z;rw[r] at mu;exact mu
 by_cases hb:b=x
 ·subst hb;rw[ae] at q;cases q;exact new
 ·rw[aj hb] at q
  by_cases hbe:b=e
  ·have q':H b=some (.own x):=by
    rcases he with z | z
    ·exact absurd (hbe.trans z) hb
    ·rw[hbe];exact z
   rw[q] at q';cases q'
   obtain ⟨v,hv⟩:=heo
   exact ⟨v,by rw[hbe];exact hv⟩
  ·refine (ok b u q).stay (λc v hc r=>k c v ?_ r) (λc r=>by rw[aj (nown c b r)];exact r) λc xs r=>by rw[aj (ntup c xs r)];exact r
   rcases hc with rfl | hc
   ·exact hbe
   ·rintro rfl
    rcases he with z | z
    ·exact nown c b hc z
    ·rw[hc] at z;cases z;exact hb rfl
end
structure Un (fs ex:List Addr)(H H':Hp)(h h':Heap):Prop where
 keep:∀b o,h.get? b=some o->H b=none->b∉fs->b∉ex->h'.get? b=some o
 slot:∀b o,h.get? b=some o->H b=none->b∈fs->b∉ex->∃sl,h'.get? b=some { o with slots:=sl }
 free:∀b o,h.get? b=some o->H b=none->b∉ex->H' b=none
 there:∀b o,h.get? b=some o->b∉ex->∃o',h'.get? b=some o'
 tups:∀b xs,H b=some (.tup xs)->H' b=some (.tup xs)
 frzs:∀b o u,H b=some (.frz o u)->H' b=some (.frz o u)
 tbls:∀b ps,H b=some (.tbl ps)->∃more,H' b=some (.tbl (ps++more))
section
variable  {fs fs' ex ex':List Addr}{H H1 H2:Hp}{h h1 h2 h':Heap}{a x e:Addr}{o:HO}
theorem Un.any (u:Un fs ex H H1 h h1){b:Addr}{ob:Obj}(q:h.get? b=some ob)(n:H b=none)(hx:b∉ex):∃sl,h1.get? b=some { ob with slots:=sl }:=by
 by_cases hb:b∈fs
 ·exact u.slot b ob q n hb hx
 ·exact ⟨ob.slots,u.keep b ob q n hb hx⟩
theorem Un.kept (k:∀b u,h.get? b=some u->h'.get? b=some u):Un fs ex H H h h' :=
 ⟨λb ob q _ _ _=>k b ob q,λb ob q _ _ _=>⟨ob.slots,k b ob q⟩,λ_ _ _ n _=>n,λb ob q _=>⟨ob,k b ob q⟩,λ_ _ q=>q,λ_ _ _ q=>q,λ_ ps q=>⟨#[],by rw[q];simp⟩⟩
theorem Un.refl:Un fs ex H H h h:=Un.kept λ_ _ q=>q
theorem Un.laid (k:∀b u,h.get? b=some u->h'.get? b=some u)(hp:h.objs.size<=a)(hn:H a=none):Un fs ex H (upd H a o) h h' where
 keep:=λb u q _ _ _=>k b u q
 slot:=λb u q _ _ _=>⟨u.slots,k b u q⟩
 free:=λb u q n _=>by rw[aj (Bz (Bm (Bc q) hp))];exact n
 there:=λb u q _=>⟨u,k b u q⟩
 tups:=λb xs q=>by rw[aj (aq q hn)];exact q
 frzs:=λb u xs q=>by rw[aj (aq q hn)];exact q
 tbls:=λb ps q=>⟨#[],by rw[aj (aq q hn),q];simp⟩
theorem Un.write (mu:Mut (H x))(he:e=x\/H e=some (.own x))(k:∀b u,b≠e->h.get? b=some u->h'.get? b=some u)(heo:∃u,h'.get? e=some u):Un fs ex H (upd H x o) h h':=by
 have hx:∀b,H b=none->b≠x:=λb n z=>by subst z;rw[n] at mu;exact mu
 have hb:∀b,H b=none->b≠e:=λb n z=>by
  subst z
  rcases he with r | r
  ·exact hx b n r
  ·rw[n] at r;cases r
 have hm:∀b u,H b=some u->¬ Mut (some u)->b≠x:=λb u q nm z=>by subst z;rw[q] at mu;exact nm mu
 refine ⟨λb u q n _ _=>k b u (hb b n) q,λb u q n _ _=>⟨u.slots,k b u (hb b n) q⟩,λb u q n _=>by rw[aj (hx b n)];exact n,λb u q _ =>?_,
  λb xs q=>by rw[aj (hm b _ q λz=>z)];exact q,λb u xs q=>by rw[aj (hm b _ q λz=>z)];exact q,λb ps q=>⟨#[],by rw[aj (hm b _ q λz=>z),q];simp⟩⟩
 by_cases hbe:b=e
 ·subst hbe;exact heo
 ·exact ⟨u,k b u hbe q⟩
end
def trk (h:Heap)(H:Hp):List Addr:=(Bw h.objs.size).filter λa=>(H a).isSome
def nM (h:Heap)(H:Hp):Heap:=PySem.W.hideAll h (trk h H)
theorem tV (h:Heap)(H:Hp):(nM h H).objs.size=h.objs.size:=PySem.W.hideAll_size _ _
theorem vj {h:Heap}{H:Hp}{b:Addr}{o:Obj}(e:h.get? b=some o)(n:H b=none):(nM h H).get? b=some o :=
 PySem.W.hideAll_get _ e λhm=>by
  have q:(H b).isSome=true:=(Ce.mp hm).2
  rw[n] at q;simp at q
theorem w4 {h:Heap}{H:Hp}{b:Addr}{o:Obj}(e:(nM h H).get? b=some o):h.get? b=some o/\H b=none:=by
 have e':h.get? b=some o:=PySem.W.of_hideAll (trk h H) e
 refine ⟨e',?_⟩
 cases q:H b with
 | none=>rfl
 | some x =>
  have hm:b∈trk h H:=Ce.mpr ⟨Cg.mpr (Bc e'),by simp[q]⟩
  have z:(nM h H).get? b=none:=PySem.W.hideAll_none (trk h H) hm
  rw[z] at e;cases e
def w5 (g h:Heap)(L:Addr):List (Addr×Obj):=(Bw h.objs.size).filterMap λa=>if a=L\/(g.get? a).isSome=true then none else (h.get? a).map λo=>(a,o)
def rest (g h:Heap)(L d:Addr):List (Addr×Obj):=(w5 g h L).filter λp=>decide (p.1≠d)
open PySem PySem.Spec PyProof.Rows
structure Mod (K:A0)(mg:Str->Option AS)(base:Heap):Prop where
 kin:K.In base
 glob:base.Ns Cf mg
 blt:∃mb,base.Ns builtinsNs mb/\∀x:Str,x ≠ "__name__" -> mb x=Cu x
 nolimit:base.NoLimit
structure Cx where
 prog:Bi
 w:BQ
 K:A0
 mg:Str->Option AS
 base:Heap
 A:Cc
 N:List Str
 s₀:A1
 H₀:Hp
 env:Env
 outer:List Env
 stack:List Env
 ex:List Addr
 fn:Str->Bool
 calm:Bool
 pn:List (Addr×Obj)
 xe:AS->A1->Prop
def frs (l:List Env):List Addr:=l.filterMap (·.frame)
abbrev Cx.fs (X:Cx):List Addr:=frs X.outer
def Vis (sc:Scope)(x:Str):Prop:=sc.names.lookup x=some .local\/sc.names.lookup x=some .cell\/sc.names.lookup x=some .free
def Loc (sc:Scope)(x:Str):Prop:=sc.names.lookup x=some .local\/sc.names.lookup x=some .cell
def Look (env:Env)(h:Heap)(m:Str->Option AS)(x:Str)(u:AS):Prop :=
 (env.kindOf x=some .local/\m x=some u)\/((env.kindOf x=some .cell\/env.kindOf x=some .free)/\∃c,env.cells.lookup x=some c/\h.IsCell c (some u))
structure Cx.Ok (X:Cx):Prop where
 mod:Mod X.K X.mg X.base
 kind:X.env.scope.kind = .function
 glob:X.env.globals=Cf
 blt:X.env.builtins=builtinsNs
 above:X.s₀.heap.objs.size<=X.env.locals
 inj:∀x y c,X.env.cells.lookup x=some c->X.env.cells.lookup y=some c->x=y
 has:∀x,(X.env.kindOf x=some .cell\/X.env.kindOf x=some .free)->∃c,X.env.cells.lookup x=some c
 cab:∀x c,X.fn x=true->X.env.cells.lookup x=some c->X.s₀.heap.objs.size<=c
 hd:X.calm=true->X.A.handled=none
 frames:X.A.frames=some X.stack
 stk:X.stack=X.outer\/(X.stack=X.env :: X.outer/\X.env.frame=some X.env.locals)
 exf:∀b∈X.ex,b≠X.env.locals/\∀x c,X.env.cells.lookup x=some c->c≠b
 bs:∀b o,X.base.get? b=some o->X.s₀.heap.get? b=some o/\X.H₀ b=none
 bsz:X.base.objs.size<=X.s₀.heap.objs.size
 noex:∀b o,X.base.get? b=some o->b∉X.ex
 exfs:∀b∈X.ex,b∉X.fs
 funs:X.s₀.heap.FunFrames X.base X.outer
 frf:∀b∈X.fs,X.H₀ b=none
structure Inv (X:Cx)(pins:List (Addr×Obj))(σ:List (Option V))(H:Hp)(s:A1):Prop where
 ok:X.Ok
 os:s.os=X.s₀.os
 bare:AllBare s.gens
 base:Un X.fs X.ex X.H₀ H X.s₀.heap s.heap
 loc:∃m,s.heap.Ns X.env.locals m/\∀(i:Nat) (x:Str) (v:V),X.N[i]? = some x->σ[i]? = some (some v)->Vis X.env.scope x->∃u,RelV v u/\Look X.env s.heap m x u
 cell:∀x c,X.env.cells.lookup x=some c->∃v,s.heap.IsCell c v
 free:H X.env.locals=none
 freeC:∀x c,X.env.cells.lookup x=some c->H c=none
 pin:∀p∈X.pn++pins,s.heap.get? p.1=some p.2/\H p.1=none/\p.1≠X.env.locals/\p.1∉X.fs/\∀v,p.2.data ≠ .cell v
 hok:HOk X.prog X.w H s.heap
 len:σ.length=X.N.length
section
variable  {X:Cx}{pins:List (Addr×Obj)}{σ:List (Option V)}{H H':Hp}{s:A1}{h':Heap}
theorem Cx.Ok.nofr (ok:X.Ok){b:Addr}{o:Obj}(e:X.base.get? b=some o):b∉X.fs:=λhb=>by
 have:=(ok.funs.mem hb).1
 rw[e] at this;cases this
theorem Inv.bs (I:Inv X pins σ H s):∀b o,X.base.get? b=some o->s.heap.get? b=some o/\H b=none:=λb o e =>
 ⟨I.base.keep b o (I.ok.bs b o e).1 (I.ok.bs b o e).2 (I.ok.nofr e) (I.ok.noex b o e),I.base.free b o (I.ok.bs b o e).1 (I.ok.bs b o e).2 (I.ok.noex b o e)⟩
theorem Inv.bk (I:Inv X pins σ H s):∀b o,X.base.get? b=some o->s.heap.get? b=some o:=λb o e=>(I.bs b o e).1
theorem Inv.mod (I:Inv X pins σ H s):Mod X.K X.mg X.base:=I.ok.mod
theorem Inv.kIn (I:Inv X pins σ H s):X.K.In s.heap:=I.ok.mod.kin.keeps I.bk
theorem Inv.lt (I:Inv X pins σ H s):X.env.locals<s.heap.objs.size:=let ⟨_,hn,_⟩:=I.loc;hn.lt
theorem Inv.sz (I:Inv X pins σ H s):X.s₀.heap.objs.size<=s.heap.objs.size:=BL I.ok.above (CK I.lt)
theorem Inv.yY (I:Inv X pins σ H s){a:Addr}(h:s.heap.objs.size<=a):a∉X.fs:=λhb=>by
 obtain ⟨_,o,ho,_⟩:=I.ok.funs.mem hb
 exact absurd (Bm (Bc ho) (BL I.sz h)) (Cp _)
theorem Inv.cne (I:Inv X pins σ H s):∀x c,X.env.cells.lookup x=some c->c≠X.env.locals:=λx c e z=>by
 obtain ⟨v,o,ho,hd⟩:=I.cell x c e
 obtain ⟨m,⟨o',es,ep,ho',hd',_⟩,_⟩:=I.loc
 rw[z,ho'] at ho;cases ho;rw[hd'] at hd;cases hd
theorem Inv.funs (I:Inv X pins σ H s):s.heap.FunFrames X.base X.outer:=by
 have all:∀(l:List Env),(∀b∈frs l,b∈X.fs)->X.s₀.heap.FunFrames X.base l->s.heap.FunFrames X.base l:=by
  intro l
  induction l with
  | nil=>intro _ _;trivial
  | cons env r ih =>
   intro hs hl
   obtain ⟨hk,⟨L,o,hf,hn,ho,hd⟩,hr⟩:=hl
   have hL:L∈X.fs:=hs L (by unfold frs;rw[Ew,hf];exact Be)
   obtain ⟨sl,e⟩:=I.base.slot L o ho (I.ok.frf L hL) hL λz=>I.ok.exfs L z hL
   exact ⟨hk,⟨L,_,hf,hn,e,hd⟩,ih (λb hb=>hs b (by unfold frs;rw[Ew,hf];exact Br _ hb)) hr⟩
 exact all X.outer (λ_ hb=>hb) I.ok.funs
theorem Inv.stack (I:Inv X pins σ H s):s.heap.FunFrames X.base X.stack:=by
 rcases I.ok.stk with e | ⟨e,hf⟩
 ·rw[e];exact I.funs
 ·rw[e]
  obtain ⟨m,hn,_⟩:=I.loc
  refine .cons (by rw[I.ok.kind];decide) hf hn ?_ I.funs
  exact Heap.get?_none_of_le (BL I.ok.bsz I.ok.above)
theorem Inv.nN (I:Inv X pins σ H s):∀b∈frs X.stack,b∈X.env.locals :: X.fs:=λb hb=>by
 rcases I.ok.stk with e | ⟨e,hf⟩
 ·rw[e] at hb;exact Br _ hb
 ·rw[e] at hb
  unfold frs at hb
  rw[Ew,hf] at hb
  exact hb
theorem Inv.rL (I:Inv X pins σ H s):∀b∈frs X.stack,H b=none:=λb hb=>by
 rcases Bs.mp (I.nN b hb) with e | hb
 ·rw[e];exact I.free
 ·obtain ⟨_,o,ho,_⟩:=I.ok.funs.mem hb
  exact I.base.free b o ho (I.ok.frf b hb) λz=>I.ok.exfs b z hb
theorem Inv.step {g':Array GenState}{t':Nat}{d':Drawn}{ch:List Addr}(I:Inv X pins σ H s)
  (hch:∀b∈ch,(b∈X.ex\/X.s₀.heap.objs.size<=b)/\b≠X.env.locals/\(∀x c,X.env.cells.lookup x=some c->c≠b)/\∀p∈X.pn++pins,p.1≠b)
  (keep:∀b o,b≠X.env.locals->b∉X.fs->b∉ch->s.heap.get? b=some o->H b=none->h'.get? b=some o)
  (slot:∀b o,b≠X.env.locals->b∈X.fs->b∉ch->s.heap.get? b=some o->H b=none->∃sl,h'.get? b=some { o with slots:=sl }) (free:∀b o,b∉ch->s.heap.get? b=some o->H b=none->H' b=none)
  (there:∀b o,b∉ch->s.heap.get? b=some o->∃o',h'.get? b=some o')
  (tups:∀b xs,H b=some (.tup xs)->H' b=some (.tup xs)) (frzs:∀b o u,H b=some (.frz o u)->H' b=some (.frz o u)) (tbls:∀b ps,H b=some (.tbl ps)->∃more,H' b=some (.tbl (ps++more)))
  (ns:∀m,s.heap.Ns X.env.locals m->h'.Ns X.env.locals m) (hok:HOk X.prog X.w H' h') (hg:AllBare g') :
  Inv X pins σ H' { s with heap:=h',gens:=g',drawn:=d',toks:=t' }:=by
 have neL:∀b o,X.s₀.heap.get? b=some o->b≠X.env.locals:=λb o e=>Bz (Bm (Bc e) I.ok.above)
 have neC:∀b o,X.s₀.heap.get? b=some o->b∉X.ex->b∉ch:=λb o e hx hb=>by
  rcases (hch b hb).1 with z | z
  ·exact hx z
  ·exact absurd (Bm (Bc e) z) (Cp _)
 have cellK:∀x c,X.env.cells.lookup x=some c->∀v,s.heap.IsCell c v->h'.IsCell c v:=λx c e v ⟨o,ho,hd⟩=>by
  have nch:c∉ch:=λz=>(hch c z).2.2.1 x c e rfl
  by_cases hc:c∈X.fs
  ·obtain ⟨sl,q⟩:=slot c o (I.cne x c e) hc nch ho (I.freeC x c e)
   exact ⟨_,q,hd⟩
  ·exact ⟨o,keep c o (I.cne x c e) hc nch ho (I.freeC x c e),hd⟩
 refine ⟨I.ok,I.os,hg,⟨λb o e n hb hx =>?_,λb o e n hb hx =>?_,λb o e n hx =>?_,λb o e hx =>?_,λb xs e=>tups b xs (I.base.tups b xs e),λb o xs e=>frzs b o xs (I.base.frzs b o xs e),λb ps e =>?_⟩,?_,λx c e =>?_,?_,λx c e =>?_,λp hp =>?_,hok,I.len⟩
 ·exact keep b o (neL b o e) hb (neC b o e hx) (I.base.keep b o e n hb hx) (I.base.free b o e n hx)
 ·obtain ⟨sl,e1⟩:=I.base.slot b o e n hb hx
  obtain ⟨sl',e2⟩:=slot b _ (neL b o e) hb (neC b o e hx) e1 (I.base.free b o e n hx)
  exact ⟨sl',e2⟩
 ·obtain ⟨o',e1⟩:=I.base.there b o e hx
  exact free b o' (neC b o e hx) e1 (I.base.free b o e n hx)
 ·obtain ⟨o',e1⟩:=I.base.there b o e hx
  exact there b o' (neC b o e hx) e1
 ·obtain ⟨m1,e1⟩:=I.base.tbls b ps e
  obtain ⟨m2,e2⟩:=tbls b _ e1
  exact ⟨m1++m2,by rw[e2,Array.append_assoc]⟩
 ·obtain ⟨m,hn,hl⟩:=I.loc
  refine ⟨m,ns m hn,λi x v e1 e2 e3 =>?_⟩
  obtain ⟨u,r,l⟩:=hl i x v e1 e2 e3
  refine ⟨u,r,?_⟩
  rcases l with l | ⟨k,c,e,z⟩
  ·exact .inl l
  ·exact .inr ⟨k,c,e,cellK x c e _ z⟩
 ·obtain ⟨v,z⟩:=I.cell x c e
  exact ⟨v,cellK x c e v z⟩
 ·obtain ⟨m,⟨o,_,_,ho,_⟩,_⟩:=I.loc
  exact free _ o (λz=>(hch _ z).2.1 rfl) ho I.free
 ·obtain ⟨v,o,ho,hd⟩:=I.cell x c e
  exact free c o (λz=>(hch c z).2.2.1 x c e rfl) ho (I.freeC x c e)
 ·obtain ⟨e,n,ne,nf,d⟩:=I.pin p hp
  have nch:p.1∉ch:=λz=>(hch p.1 z).2.2.2 p hp rfl
  exact ⟨keep p.1 p.2 ne nf nch e n,free p.1 p.2 nch e n,ne,nf,d⟩
theorem Inv.un {t':Nat}(I:Inv X pins σ H s)(u:Un X.fs [] H H' s.heap h')(hok:HOk X.prog X.w H' h'):Inv X pins σ H' { s with heap:=h',toks:=t' }:=by
 obtain ⟨m,⟨o,es,ep,ho,r⟩,_⟩:=id I.loc
 obtain ⟨sl,hL⟩:=u.any ho I.free (by simp)
 exact I.step (g':=s.gens) (d':=s.drawn) (ch:=[]) (λ_ z=>nomatch z) (λb o _ hb _ e n=>u.keep b o e n hb (by simp)) (λb o _ hb _ e n=>u.slot b o e n hb (by simp)) (λb o _ e n=>u.free b o e n (by simp)) (λb o _ e=>u.there b o e (by simp)) u.tups u.frzs u.tbls (λm' hm=>by
  obtain ⟨o',es',ep',ho',r'⟩:=hm
  rw[ho] at ho';cases ho'
  exact ⟨_,es',ep',hL,r'⟩) hok I.bare
theorem Inv.call {g':Array GenState}{t':Nat}{d':Drawn}{ch:List Addr}(I:Inv X pins σ H s)(u:Un (frs X.stack) ch H H' s.heap h')(hok:HOk X.prog X.w H' h')(hg:AllBare g')
  (hch:∀b∈ch,(b∈X.ex\/X.s₀.heap.objs.size<=b)/\b≠X.env.locals/\(∀x c,X.env.cells.lookup x=some c->c≠b)/\∀p∈X.pn++pins,p.1≠b) :
  Inv X pins σ H' { s with heap:=h',gens:=g',drawn:=d',toks:=t' }:=by
 obtain ⟨m,⟨o,es,ep,ho,r⟩,_⟩:=id I.loc
 obtain ⟨sl,hL⟩:=u.any ho I.free λz=>(hch _ z).2.1 rfl
 exact I.step (ch:=ch) hch (λb o hL hb hc e n=>u.keep b o e n (λz=>(Bs.mp (I.nN b z)).elim hL hb) hc) (λb o _ _ hc e n=>u.any e n hc) (λb o hc e n=>u.free b o e n hc) (λb o hc e=>u.there b o e hc) u.tups u.frzs u.tbls (λm' hm=>by
  obtain ⟨o',es',ep',ho',r'⟩:=hm
  rw[ho] at ho';cases ho'
  exact ⟨_,es',ep',hL,r'⟩) hok hg
theorem Inv.turned {t':Nat}{it:Addr}(I:Inv X pins σ H s)(k:∀b o,b≠it->s.heap.get? b=some o->h'.get? b=some o)(hn:H it=none)(hL:it≠X.env.locals)
  (h1:it∈X.ex\/X.s₀.heap.objs.size<=it) (h2:∀x c,X.env.cells.lookup x=some c->c≠it) (h3:∀p∈X.pn++pins,p.1≠it):Inv X pins σ H { s with heap:=h',toks:=t' }:=by
 have nit:∀b u,H b=some u->b≠it:=λb u e z=>by rw[z,hn] at e;cases e
 refine I.step (g':=s.gens) (d':=s.drawn) (ch:=[it]) (λb hb =>?_) (λb o _ _ hc e _=>k b o (λz=>hc (by simp[z])) e) (λb o _ _ hc e _=>⟨o.slots,k b o (λz=>hc (by simp[z])) e⟩) (λ_ _ _ _ n=>n)
  (λb o hc e=>⟨o,k b o (λz=>hc (by simp[z])) e⟩) (λ_ _ e=>e) (λ_ _ _ e=>e) (λb ps e=>⟨#[],by rw[e];simp⟩) (λm hm =>?_) (λb u e =>?_) I.bare
 ·have e:b=it:=by simpa using hb
  subst e
  exact ⟨h1,hL,h2,h3⟩
 ·obtain ⟨o,es,ep,ho,r⟩:=hm
  exact ⟨o,es,ep,k _ o (C7 hL) ho,r⟩
 ·refine (I.hok b u e).stay (λc v hc q=>k c v ?_ q) (λ_ q=>q) λ_ _ q=>q
  rcases hc with z | z
  ·rw[z];exact nit b u e
  ·exact nit c _ z
theorem Inv.tok (I:Inv X pins σ H s)(t:Nat):Inv X pins σ H { s with toks:=t }:=I.un (h':=s.heap) (t':=t) Un.refl I.hok
theorem Inv.kept {t':Nat}(I:Inv X pins σ H s)(k:∀b u,s.heap.get? b=some u->h'.get? b=some u):Inv X pins σ H { s with heap:=h',toks:=t' }:=I.un (Un.kept k) (I.hok.kept k)
theorem Inv.laid {a:Addr}{o:HO}{t':Nat}(I:Inv X pins σ H s)(k:∀b u,s.heap.get? b=some u->h'.get? b=some u)(hp:s.heap.objs.size<=a)(new:aZ X.prog X.w (upd H a o) h' a o) :
  Inv X pins σ (upd H a o) { s with heap:=h',toks:=t' }:=I.un (Un.laid k hp (I.hok.fresh hp)) (I.hok.laid k hp new)
theorem Inv.write {x e:Addr}{o:HO}{t':Nat}(I:Inv X pins σ H s)(mu:Mut (H x))(he:e=x\/H e=some (.own x))(k:∀b u,b≠e->s.heap.get? b=some u->h'.get? b=some u)(heo:∃u,h'.get? e=some u)
  (new:aZ X.prog X.w (upd H x o) h' x o):Inv X pins σ (upd H x o) { s with heap:=h',toks:=t' }:=I.un (Un.write mu he k heo) (I.hok.write mu he k heo new)
theorem Inv.iB {pins':List (Addr×Obj)}(I:Inv X pins σ H s)(h:∀p∈pins',s.heap.get? p.1=some p.2/\H p.1=none/\p.1≠X.env.locals/\p.1∉X.fs/\∀v,p.2.data ≠ .cell v):Inv X pins' σ H s :=
 ⟨I.ok,I.os,I.bare,I.base,I.loc,I.cell,I.free,I.freeC,λp hp=>(A7.mp hp).elim (λz=>I.pin p (BD _ z)) (h p),I.hok,I.len⟩
theorem oW {N:List Str}(hN:N.Nodup){i j:Nat}{x:Str}(a:N[i]? = some x)(b:N[j]? = some x):i=j:=by
 obtain ⟨h1,e1⟩:=AW.mp a
 obtain ⟨h2,e2⟩:=AW.mp b
 exact (List.getElem_inj hN).mp (e1.trans e2.symm)
theorem tW {M:Model}{A:Cc}{E:AS->A1->Prop}{i:Nat}{x:Str}{v:V}{u:AS}{Q:Unit->A1->Prop}(I:Inv X pins σ H s)(hN:X.N.Nodup)(hi:X.N[i]? = some x)(hx:Loc X.env.scope x)(r:RelV v u)
  (h:∀s',Inv X pins (σ.set i (some v)) H s'->(∃a,Heap.SameBut a s.heap s'.heap/\(a=X.env.locals\/X.env.cells.lookup x=some a))->Q () s') (hf:X.fn x=true\/X.env.scope.names.lookup x=some .local:=by first | exact .inl rfl | exact .inr rfl | assumption):Bv M A (storeName X.env x u) Q E s:=by
 obtain ⟨m,hn,hl⟩:=id I.loc
 have hcls:(X.env.scope.kind == .class || (X.env.scope.kind == .module && X.env.locals != X.env.globals))=false:=by rw[I.ok.kind];rfl
 have hiσ:i<σ.length:=by rw[I.len];exact (AW.mp hi).1
 have cne:=I.cne
 have tracked:∀{a:Addr} {h':Heap},(∃o,s.heap.get? a=some o/\H a=none)->Heap.SameBut a s.heap h'->HOk X.prog X.w H h':=λ{a h'} ha hs b ob e=>by
  obtain ⟨_,_,hfree⟩:=ha
  refine (I.hok b ob e).stay (λc w' hc q=>(hs.2 c ?_).trans q) (λ_ q=>q) λ_ _ q=>q
  rintro rfl
  rcases hc with rfl | hc
  ·rw[hfree] at e;cases e
  ·rw[hfree] at hc;cases hc
 rcases hx with hk | hk
 ·refine wpAny_storeName_local hk hn (λh' hn' hs =>?_) hcls
  obtain ⟨oL,_,_,hoL,_⟩:=id hn
  refine h _ ⟨I.ok,I.os,I.bare,⟨λb o e n hb hx =>?_,λb o e n hb hx =>?_,I.base.free,λb o e hx =>?_,I.base.tups,I.base.frzs,I.base.tbls⟩,⟨_,hn',λj y v' e1 e2 e3 =>?_⟩,λy c e =>?_,I.free,I.freeC,λp hp =>?_,tracked ⟨oL,hoL,I.free⟩ hs,by simpa using I.len⟩ ⟨_,hs,.inl rfl⟩
  ·exact (hs.2 b (Bz (Bm (Bc e) I.ok.above))).trans (I.base.keep b o e n hb hx)
  ·obtain ⟨sl,e1⟩:=I.base.slot b o e n hb hx
   exact ⟨sl,(hs.2 b (Bz (Bm (Bc e) I.ok.above))).trans e1⟩
  ·obtain ⟨o',e1⟩:=I.base.there b o e hx
   exact ⟨o',(hs.2 b (Bz (Bm (Bc e) I.ok.above))).trans e1⟩
  ·by_cases hj:j=i
   ·subst hj
    rw[hi] at e1;cases e1
    rw[Dj hiσ] at e2
    cases e2
    exact ⟨u,r,.inl ⟨hk,by simp⟩⟩
   ·rw[DT (C7 hj)] at e2
    obtain ⟨u',r',q⟩:=hl j y v' e1 e2 e3
    refine ⟨u',r',?_⟩
    rcases q with ⟨k,e⟩ | ⟨k,c,e,z⟩
    ·refine .inl ⟨k,?_⟩
     have:y≠x:=λe=>hj (oW hN e1 (e ▸ hi))
     simp[this,e]
    ·exact .inr ⟨k,c,e,z.sameBut hs (cne y c e)⟩
  ·obtain ⟨w',z⟩:=I.cell y c e
   exact ⟨w',z.sameBut hs (cne y c e)⟩
  ·obtain ⟨e,n,ne,nf,d⟩:=I.pin p hp
   exact ⟨(hs.2 p.1 ne).trans e,n,ne,nf,d⟩
 ·have hfn:X.fn x=true:=by
   rcases hf with z | z
   ·exact z
   ·rw[z] at hk;cases hk
  obtain ⟨c,hc⟩:=I.ok.has x (.inl hk)
  obtain ⟨w',z⟩:=I.cell x c hc
  refine wpAny_storeName_cell I.ok.kind hk hc z (λh' hc' hs =>?_)
  obtain ⟨oc,hoc,hocd⟩:=id z
  refine h { s with heap:=h' } ⟨I.ok,I.os,I.bare,⟨λb o e n hb hx =>?_,λb o e n hb hx =>?_,I.base.free,λb o e hx =>?_,I.base.tups,I.base.frzs,I.base.tbls⟩,⟨m,hn.sameBut hs (C7 (cne x c hc)),λj y v' e1 e2 e3 =>?_⟩,λy c' e =>?_,I.free,I.freeC,λp hp =>?_,tracked ⟨oc,hoc,I.freeC x c hc⟩ hs,by simpa using I.len⟩ ⟨c,hs,.inr hc⟩
  ·exact (hs.2 b (Bz (Bm (Bc e) (I.ok.cab x c hfn hc)))).trans (I.base.keep b o e n hb hx)
  ·obtain ⟨sl,e1⟩:=I.base.slot b o e n hb hx
   exact ⟨sl,(hs.2 b (Bz (Bm (Bc e) (I.ok.cab x c hfn hc)))).trans e1⟩
  ·obtain ⟨o',e1⟩:=I.base.there b o e hx
   exact ⟨o',(hs.2 b (Bz (Bm (Bc e) (I.ok.cab x c hfn hc)))).trans e1⟩
  ·by_cases hj:j=i
   ·subst hj
    rw[hi] at e1;cases e1
    rw[Dj hiσ] at e2
    cases e2
    exact ⟨u,r,.inr ⟨.inl hk,c,hc,hc'⟩⟩
   ·rw[DT (C7 hj)] at e2
    obtain ⟨u',r',q⟩:=hl j y v' e1 e2 e3
    refine ⟨u',r',?_⟩
    rcases q with q | ⟨k,c',e,z'⟩
    ·exact .inl q
    ·refine .inr ⟨k,c',e,z'.sameBut hs ?_⟩
     rintro rfl
     exact hj (oW hN e1 (I.ok.inj _ _ _ e hc ▸ hi))
  ·by_cases hcc:c'=c
   ·subst hcc;exact ⟨_,hc'⟩
   ·obtain ⟨w2,z2⟩:=I.cell y c' e
    exact ⟨w2,z2.sameBut hs hcc⟩
  ·obtain ⟨e,n,ne,nf,d⟩:=I.pin p hp
   refine ⟨(hs.2 p.1 ?_).trans e,n,ne,nf,d⟩
   intro q
   rw[q,hoc] at e
   have q':oc=p.2:=BC e
   exact d w' (by rw[<- q'];exact hocd)
theorem oX {M:Model}{A:Cc}{E:AS->A1->Prop}{i:Nat}{x:Str}{v:V}{u:AS}{Q:Unit->A1->Prop}(I:Inv X pins σ H s)(hN:X.N.Nodup)(hi:X.N[i]? = some x)(hx:Loc X.env.scope x)(r:RelV v u)
  (h:∀s',Inv X pins (σ.set i (some v)) H s'->Q () s') (hf:X.fn x=true\/X.env.scope.names.lookup x=some .local:=by first | exact .inl rfl | exact .inr rfl | assumption):Bv M A (storeName X.env x u) Q E s :=
 tW I hN hi hx r (λs' I' _=>h s' I') hf
theorem Inv.z3 {s':A1}{ch:List Addr}(I:Inv X pins σ H s)(ho:s'.os=s.os)(u:Un (frs X.stack) ch H H' s.heap s'.heap)(hok:HOk X.prog X.w H' s'.heap)(hg:AllBare s'.gens)
  (hch:∀b∈ch,(b∈X.ex\/X.s₀.heap.objs.size<=b)/\b≠X.env.locals/\(∀x c,X.env.cells.lookup x=some c->c≠b)/\∀p∈X.pn++pins,p.1≠b):Inv X pins σ H' s':=by
 obtain ⟨h',g',d',t',o'⟩:=s'
 have e:o'=s.os:=ho
 subst e
 exact I.call (g':=g') (t':=t') (d':=d') u hok hg hch
end
abbrev XK:=AS->Option Addr->Hp->Prop
abbrev St:=List (Option V)
abbrev VK:=V->Hp->Prop
abbrev TE:=St->Hp->VK->Prop
abbrev TT:=St->Hp->(Bool->Hp->Prop)->Prop
abbrev TA:=St->Hp->(List V->Hp->Prop)->Prop
structure Ends where
 nx:St->Hp->Prop
 rt:VK
 bk:St->Hp->Prop:=λ_ _=>False
 ct:St->Hp->Prop:=λ_ _=>False
abbrev TS:=Ends->St->Hp->Prop
def EP (X:Cx)(pins:List (Addr×Obj))(σ:St)(Q:VK)(u:AS)(s':A1):Prop:=∃v H',Inv X pins σ H' s'/\RelV v u/\Q v H'
def TP (X:Cx)(pins:List (Addr×Obj))(σ:St)(Q:Bool->Hp->Prop)(b:Bool)(s':A1):Prop:=∃H',Inv X pins σ H' s'/\Q b H'
def AP (X:Cx)(pins:List (Addr×Obj))(σ:St)(Q:List V->Hp->Prop)(us:List AS)(s':A1):Prop:=∃vs H',Inv X pins σ H' s'/\Vals vs us/\Q vs H'
def SP (X:Cx)(pins:List (Addr×Obj))(D:Ends)(f:Flow)(s':A1):Prop :=
 match f with
 | .next=>∃σ' H',Inv X pins σ' H' s'/\D.nx σ' H'
 | .brk=>∃σ' H',Inv X pins σ' H' s'/\D.bk σ' H'
 | .cont=>∃σ' H',Inv X pins σ' H' s'/\D.ct σ' H'
 | .ret u=>∃v σ' H',Inv X pins σ' H' s'/\RelV v u/\D.rt v H'
def PE (X:Cx)(e:Expr)(t:TE):Prop :=
 ∀(pins:List (Addr×Obj)) (s:A1) (σ:St) (H:Hp) (Q:VK),Inv X pins σ H s->t σ H Q->Bv (BJ X.prog X.w) X.A (eval e X.env) (EP X pins σ Q) X.xe s
def PT (X:Cx)(e:Expr)(t:TT):Prop :=
 ∀(pins:List (Addr×Obj)) (s:A1) (σ:St) (H:Hp) (Q:Bool->Hp->Prop),Inv X pins σ H s->t σ H Q->Bv (BJ X.prog X.w) X.A (isTrue e X.env (eval e X.env)) (TP X pins σ Q) X.xe s
def PW (X:Cx)(e:Expr)(t:TT):Prop :=
 ∀(whole:Sem AS) (pins:List (Addr×Obj)) (s:A1) (σ:St) (H:Hp) (Q:Bool->Hp->Prop),Inv X pins σ H s->t σ H Q->Bv (BJ X.prog X.w) X.A (isTrue e X.env whole) (TP X pins σ Q) X.xe s
theorem PW.pt {X:Cx}{e:Expr}{t:TT}(h:PW X e t):PT X e t:=h _
def PA (X:Cx)(es:List Expr)(t:TA):Prop :=
 ∀(pos:Pos) (pins:List (Addr×Obj)) (s:A1) (σ:St) (H:Hp) (Q:List V->Hp->Prop),Inv X pins σ H s->t σ H Q->Bv (BJ X.prog X.w) X.A (spliced (E4 pos (Cm es X.env))) (AP X pins σ Q) X.xe s
def PS (X:Cx)(st:Stmt)(t:TS):Prop :=
 ∀(pins:List (Addr×Obj)) (s:A1) (σ:St) (H:Hp) (D:Ends),Inv X pins σ H s->t D σ H->Bv (BJ X.prog X.w) X.A (exec st X.env) (SP X pins D) X.xe s
def PSs (X:Cx)(st:List Stmt)(t:TS):Prop :=
 ∀(pins:List (Addr×Obj)) (s:A1) (σ:St) (H:Hp) (D:Ends),Inv X pins σ H s->t D σ H->Bv (BJ X.prog X.w) X.A (execs st X.env) (SP X pins D) X.xe s
theorem thn {α:Type}{t:Sem α}{Q Q':α -> A1->Prop}{M:Model}{A:Cc}{E:AS->A1->Prop}{s:A1}(h:Bv M A t Q E s)(hQ:∀a s,Q a s->Q' a s):Bv M A t Q' E s:=DF h hQ λ_ _ x=>x
open PySem PySem.Spec PyProof.Rows
section
variable  {X:Cx}
theorem bin {a b:Expr}{ta tb:TE}(ha:PE X a ta)(hb:PE X b tb){pins:List (Addr×Obj)}{s:A1}{σ:St}{H:Hp}{R:V->V->Hp->Prop}(I:Inv X pins σ H s)(h:ta σ H λx H1=>tb σ H1 λy H2=>R x y H2)
  {α:Type} {Q:α -> A1->Prop} {f:AS->AS->Sem α}
  (hf:∀v u s2 x y H2,Inv X pins σ H2 s2->RelV x v->RelV y u->R x y H2->Bv (BJ X.prog X.w) X.A (f v u) Q X.xe s2) :
  Bv (BJ X.prog X.w) X.A (eval a X.env) (λv s₁=>Bv (BJ X.prog X.w) X.A (eval b X.env) (λu s₂=>Bv (BJ X.prog X.w) X.A (f v u) Q X.xe s₂) X.xe s₁) X.xe s:=by
 refine thn (ha pins s σ H _ I h) λv s1 ⟨x,H1,I1,r1,q1⟩ =>?_
 refine thn (hb pins s1 σ H1 _ I1 q1) λu s2 ⟨y,H2,I2,r2,q2⟩ =>?_
 exact hf v u s2 x y H2 I2 r1 r2 q2
def z4 (i:Nat):TE:=λσ H Q=>∃v,σ[i]? = some (some v)/\Q v H
def tC (v:V):TE:=λ_ H Q=>Q v H
theorem yZ {i:Nat}{x:Str}{pos:Pos}(hN:X.N[i]? = some x)(hv:Vis X.env.scope x)(hd:(x == ("__debug__" : Str))=false:=by decide)(hcd:(x == ("__classdict__" : Str))=false:=by decide):PE X (.Name x pos) (z4 i):=by
 intro pins s σ H Q I h
 obtain ⟨v,e,h⟩:=h
 obtain ⟨m,hn,hl⟩:=I.loc
 obtain ⟨u,r,l⟩:=hl i x v hN e hv
 have fin:EP X pins σ Q u s:=⟨v,H,I,r,h⟩
 rcases l with ⟨hk,hm⟩ | ⟨hk,c,hc,hcell⟩
 ·exact Jb (wpAny_loadName_local I.ok.kind hk hn hm fin) hd
 ·rcases hk with hk | hk
  ·exact Jb (wpAny_loadName_cell I.ok.kind hk hc hcell fin) hd
  ·exact Jb (wpAny_loadName_free I.ok.kind hk hc hcell fin hcd) hd
theorem ah {i j pos}:PE X (.Constant (.int i) j pos) (tC (.int i)):=λ_ _ _ H _ I h=>wpAny_Constant_int ⟨.int i,H,I.tok _,⟨_,rfl⟩,h⟩
theorem kA {b j pos}:PE X (.Constant (.bool b) j pos) (tC (.bl b)):=λ_ _ _ H _ I h=>Constant_bool ⟨.bl b,H,I,rfl,h⟩
theorem cW {j pos}:PE X (.Constant .none j pos) (tC .non):=λ_ _ _ H _ I h=>Constant_none ⟨.non,H,I,rfl,h⟩
theorem kB {x j pos}:PE X (.Constant (.str x) j pos) (tC (.str x)):=λ_ _ _ H _ I h=>Calls.Constant_str ⟨.str x,H,I.tok _,⟨_,rfl⟩,h⟩
def Gl (X:Cx)(x:Str):Prop:=X.env.kindOf x=some .globalImplicit
theorem w6 {E:AS->A1->Prop}{pins:List (Addr×Obj)}{s:A1}{σ:St}{H:Hp}{x:Str}{u:AS}{pos:Pos}{Q:AS->A1->Prop}(I:Inv X pins σ H s)(hg:Gl X x)(hm:X.mg x=some u)(h:Q u s)
  (hd:(x == ("__debug__" : Str))=false:=by decide):Bv (BJ X.prog X.w) X.A (eval (.Name x pos) X.env) Q E s :=
 FH I.ok.kind hg (Calls.loadGlobal_global (by rw[I.ok.glob];exact I.mod.glob.keeps I.bk) hm h) hd
theorem jj {E:AS->A1->Prop}{pins:List (Addr×Obj)}{s:A1}{σ:St}{H:Hp}{x:Str}{u:AS}{pos:Pos}{Q:AS->A1->Prop}(I:Inv X pins σ H s)(hg:Gl X x)(hm:X.mg x=none)(hv:Cu x=some u)(h:Q u s)
  (hn:x ≠ "__name__" := by decide) (hd:(x == ("__debug__" : Str))=false:=by decide):Bv (BJ X.prog X.w) X.A (eval (.Name x pos) X.env) Q E s:=by
 obtain ⟨mb,h1,h2⟩:=I.mod.blt
 exact FH I.ok.kind hg (Calls.loadGlobal_builtin (by rw[I.ok.glob];exact I.mod.glob.keeps I.bk) hm (by rw[I.ok.blt];exact h1.keeps I.bk) ((h2 x hn).trans hv) h) hd
theorem gB {x:Str}{v:V}{u:AS}{pos:Pos}(hg:Gl X x)(hm:X.mg x=none)(hv:Cu x=some u)(r:RelV v u)(hn:x ≠ "__name__" := by decide)(hd:(x == ("__debug__" : Str))=false:=by decide):PE X (.Name x pos) (tC v) :=
 λ_ _ _ H _ I h=>jj I hg hm hv ⟨v,H,I,r,h⟩ hn hd
variable  {a b:Expr}{ta tb:TE}{pos:Pos}
def PC (X:Cx)(op:CmpOp)(a b:Expr)(t:TE):Prop :=
 ∀(pins:List (Addr×Obj)) (s:A1) (σ:St) (H:Hp) (Q:VK),Inv X pins σ H s->t σ H Q →
  Bv (BJ X.prog X.w) X.A (eval a X.env) (λv s₁=>Bv (BJ X.prog X.w) X.A (eval b X.env) (λu s₂=>Bv (BJ X.prog X.w) X.A (CP op v u) (EP X pins σ Q) X.xe s₂) X.xe s₁) X.xe s
theorem vk (b:Expr){op:CmpOp}(h:op ≠ .In)(h2:op ≠ .NotIn):behindInMarks op b=false:=by
 have e1:(op == CmpOp.In)=false:=by cases op <;> first | rfl | exact absurd rfl h
 have e2:(op == CmpOp.NotIn)=false:=by cases op <;> first | rfl | exact absurd rfl h2
 cases b <;> simp[behindInMarks,e1,e2]
def tB (t:TE):TT:=λσ H Q=>t σ H λx H1=>∃c,x = .bl c/\Q c H1
theorem nO {op:CmpOp}{t:TE}(h:PC X op a b t)(h1:behindInMarks op b=false:=by first | exact vk _ (by decide) (by decide) | rfl):PT X (.Compare a [op] [b] pos) (tB t):=by
 intro pins s σ H Q I hw
 refine GX (thn (h pins s σ H _ I hw) λv s1 h1=>thn h1 λu s2 h2=>thn h2 λc s3 ⟨x,H1,I1,r1,q1⟩ =>?_) h1
 obtain ⟨d,rfl,q⟩:=q1
 cases r1
 exact C3 ⟨H1,I1,q⟩
theorem eX {e:Expr}{t:TE}(h:PE X e t)(he:∀whole,isTrue e X.env whole=(do let v ← whole;standAt e.pos;Fg [v] (truthy v)):=by intro _;rfl):PT X e (tB t):=by
  intro pins s σ H Q I hw
  refine isTrue_plain (thn (h pins s σ H _ I hw) λv s1 ⟨x,H1,I1,r1,q1⟩ =>?_) (he _)
  obtain ⟨d,rfl,q⟩:=q1
  cases r1
  exact C3 ⟨H1,I1,q⟩
variable  {tA tB':TT}{rest:List Expr}
def tAnd (t u:TT):TT:=λσ H Q=>t σ H λc H1=>if c=true then u σ H1 Q else Q false H1
def tOr (t u:TT):TT:=λσ H Q=>t σ H λc H1=>if c=true then Q true H1 else u σ H1 Q
def tNot (t:TT):TT:=λσ H Q=>t σ H λc H1=>Q (!c) H1
theorem dB (ha:PT X a tA):PW X (.BoolOp .And [a] pos) tA:=by
 intro wh pins s σ H Q I h
 refine isTrue_and (thn (ha pins s σ H Q I h) λc s1 e =>?_)
 cases c with
 | true=>exact isTrue_and_nil e
 | false=>exact e
theorem fJ (ha:PT X a tA):PW X (.BoolOp .Or [a] pos) tA:=by
 intro wh pins s σ H Q I h
 refine isTrue_or (thn (ha pins s σ H Q I h) λc s1 e =>?_)
 cases c with
 | false=>exact isTrue_or_nil e
 | true=>exact e
theorem fK (ha:PT X a tA)(hb:PW X (.BoolOp .And (b :: rest) pos) tB'):PW X (.BoolOp .And (a :: b :: rest) pos) (tAnd tA tB'):=by
 intro wh pins s σ H Q I h
 refine isTrue_and (thn (ha pins s σ H _ I h) λc s1 ⟨H1,I1,q1⟩ =>?_)
 cases c with
 | true=>exact hb wh pins s1 σ H1 Q I1 q1
 | false=>exact ⟨H1,I1,q1⟩
theorem fL (ha:PT X a tA)(hb:PW X (.BoolOp .Or (b :: rest) pos) tB'):PW X (.BoolOp .Or (a :: b :: rest) pos) (tOr tA tB'):=by
 intro wh pins s σ H Q I h
 refine isTrue_or (thn (ha pins s σ H _ I h) λc s1 ⟨H1,I1,q1⟩ =>?_)
 cases c with
 | true=>exact ⟨H1,I1,q1⟩
 | false=>exact hb wh pins s1 σ H1 Q I1 q1
theorem fM (ha:PT X a tA):PT X (.UnaryOp .Not a pos) (tNot tA):=by
 intro pins s σ H Q I h
 exact isTrue_not (ha pins s σ H (λc H1=>Q (!c) H1) I h)
def z5 (ta tb:TE):TE:=λσ H Q=>ta σ H λx H1=>∃c,x = .bl c/\if c=true then tb σ H1 Q else Q (.bl false) H1
theorem vm {op}{t:TE}(h:PE X a t):PE X (.BoolOp op [a] pos) t:=λpins s σ H Q I hw=>BoolOp_one (h pins s σ H Q I hw)
theorem vn (ha:PE X a ta)(hb:PE X (.BoolOp .And (b :: rest) pos) tb):PE X (.BoolOp .And (a :: b :: rest) pos) (z5 ta tb):=by
 intro pins s σ H Q I h
 refine BoolOp_and (thn (ha pins s σ H _ I h) λv s1 ⟨x,H1,I1,r1,q1⟩ =>?_)
 obtain ⟨c,rfl,q1⟩:=q1
 cases r1
 refine C3 ?_
 cases c with
 | true=>exact hb pins s1 σ H1 Q I1 q1
 | false=>exact ⟨.bl false,H1,I1,rfl,q1⟩
end
open PySem PySem.Spec PyProof.Rows
def SqL (K:A0)(H:Hp)(a:Addr)(xs:List V):Prop :=
 Rd H a (.lst xs) ∨
  ∃(o:Obj) (its:Array AS) (n:Nat),K.lookup a=some o/\o.cls = .type "list" /\ o.dict=none/\o.data = .seq its n/\its.size<=Ba/\Vals xs its.toList
def SqT (K:A0)(H:Hp)(a:Addr)(xs:List V):Prop :=
 Rd H a (.tup xs) ∨
  ∃(o:Obj) (its:Array AS) (n:Nat),K.lookup a=some o/\o.cls = .type "tuple" /\ o.data = .seq its n/\its.size<=Ba/\Vals xs its.toList
def absV:AS->Option V
 | .none=>some .non
 | .bool b=>some (.bl b)
 | .int i _=>some (.int i)
 | .str x _=>some (.str x)
 | .bytes b _=>some (.byt b)
 | .float b _=>some (.flt b)
 | .ref a=>some (.ref a)
 | .type n=>some (.ty n)
 | _=>none
theorem RelV.abs {x:V}{u:AS}(r:RelV x u):absV u=some x:=by
 cases x with
 | non=>cases r;rfl
 | bl _=>cases r;rfl
 | int _=>obtain ⟨t,rfl⟩:=r;rfl
 | str _=>obtain ⟨t,rfl⟩:=r;rfl
 | byt _=>obtain ⟨t,rfl⟩:=r;rfl
 | flt _=>obtain ⟨t,rfl⟩:=r;rfl
 | ref _=>cases r;rfl
 | ty _=>cases r;rfl
theorem RelV.inj {x y:V}{u:AS}(r:RelV x u)(q:RelV y u):x=y:=BC (r.abs.symm.trans q.abs)
theorem Vals.inj:∀{xs ys:List V} {us:List AS},Vals xs us->Vals ys us->xs=ys
 | _,_,_,.nil,.nil=>rfl
 | _,_,_,.cons r t,.cons r' t'=>by rw[r.inj r',Vals.inj t t']
section
variable  {X:Cx}{pins:List (Addr×Obj)}{σ:St}{H:Hp}{s:A1}{a:Addr}{xs ys:List V}
theorem SqL.of {K:A0}(h:H a=some (.lst xs)):SqL K H a xs :=.inl (.inl h)
theorem SqT.of {K:A0}(h:H a=some (.tup xs)):SqT K H a xs :=.inl (.inl h)
theorem Inv.list (I:Inv X pins σ H s)(h:SqL X.K H a xs):∃its:List AS,Vals xs its/\PlainL s.heap a its.toArray/\xs.length<=Ba:=by
 rcases h with h | ⟨o,its,n,hk,hc,hd,hs,hz,r⟩
 ·obtain ⟨z,its,n,r,e⟩:=h.ok I.hok
  exact ⟨its,r,⟨_,n,e,rfl,rfl,rfl⟩,z⟩
 ·refine ⟨its.toList,r,⟨o,n,I.kIn a o hk,hc,hd,by simpa using hs⟩,?_⟩
  have e:=r.length
  simp only[A5] at e
  lia
theorem Inv.tuple (I:Inv X pins σ H s)(h:SqT X.K H a xs):∃its:List AS,Vals xs its/\IsTup s.heap a its.toArray/\xs.length<=Ba:=by
 rcases h with h | ⟨o,its,n,hk,hc,hs,hz,r⟩
 ·obtain ⟨z,its,r,p⟩:=h.ok I.hok
  exact ⟨its,r,p.tup,z⟩
 ·refine ⟨its.toList,r,⟨o,I.kIn a o hk,hc,n,by simpa using hs⟩,?_⟩
  have e:=r.length
  simp only[A5] at e
  lia
theorem Inv.vo (I:Inv X pins σ H s)(h:SqL X.K H a xs)(h':SqL X.K H a ys):xs=ys:=by
 obtain ⟨its,r,⟨o,n,e,_,_,d⟩,_⟩:=I.list h
 obtain ⟨its',r',⟨o',n',e',_,_,d'⟩,_⟩:=I.list h'
 rw[e] at e';cases e'
 rw[d] at d'
 injection d' with d1 _
 have:its=its':=by simpa using congrArg Array.toList d1
 subst this
 exact r.inj r'
theorem Inv.mI (I:Inv X pins σ H s)(h:SqT X.K H a xs)(h':SqT X.K H a ys):xs=ys:=by
 obtain ⟨its,r,⟨o,e,_,n,d⟩,_⟩:=I.tuple h
 obtain ⟨its',r',⟨o',e',_,n',d'⟩,_⟩:=I.tuple h'
 rw[e] at e';cases e'
 rw[d] at d'
 injection d' with d1 _
 have:its=its':=by simpa using congrArg Array.toList d1
 subst this
 exact r.inj r'
end
abbrev Cx.mv (X:Cx)(E:AS->A1->Prop):Cx:={ X with xe:=E }
abbrev Cx.nox (X:Cx):Cx:=X.mv λ_ _=>False
theorem Cx.Ok.mv {X:Cx}(ok:X.Ok)(E:AS->A1->Prop):(X.mv E).Ok :=
 ⟨ok.mod,ok.kind,ok.glob,ok.blt,ok.above,ok.inj,ok.has,ok.cab,ok.hd,ok.frames,ok.stk,ok.exf,ok.bs,ok.bsz,ok.noex,ok.exfs,ok.funs,ok.frf⟩
theorem Cx.Ok.fN {X:Cx}{E:AS->A1->Prop}(ok:(X.mv E).Ok):X.Ok :=
 ⟨ok.mod,ok.kind,ok.glob,ok.blt,ok.above,ok.inj,ok.has,ok.cab,ok.hd,ok.frames,ok.stk,ok.exf,ok.bs,ok.bsz,ok.noex,ok.exfs,ok.funs,ok.frf⟩
section
variable  {X:Cx}{pins:List (Addr×Obj)}{σ:St}{H:Hp}{s:A1}{E:AS->A1->Prop}
theorem Inv.mv (I:Inv X pins σ H s)(E:AS->A1->Prop):Inv (X.mv E) pins σ H s:=⟨I.ok.mv E,I.os,I.bare,I.base,I.loc,I.cell,I.free,I.freeC,I.pin,I.hok,I.len⟩
theorem Inv.fN (I:Inv (X.mv E) pins σ H s):Inv X pins σ H s:=⟨I.ok.fN,I.os,I.bare,I.base,I.loc,I.cell,I.free,I.freeC,I.pin,I.hok,I.len⟩
theorem SP.fN {D:Ends}{f:Flow}{s':A1}(h:SP (X.mv E) pins D f s'):SP X pins D f s':=by
 cases f with
 | next=>obtain ⟨σ',H',I,q⟩:=h;exact ⟨σ',H',I.fN,q⟩
 | brk=>obtain ⟨σ',H',I,q⟩:=h;exact ⟨σ',H',I.fN,q⟩
 | cont=>obtain ⟨σ',H',I,q⟩:=h;exact ⟨σ',H',I.fN,q⟩
 | ret u=>obtain ⟨v,σ',H',I,r,q⟩:=h;exact ⟨v,σ',H',I.fN,r,q⟩
theorem PSs.nox {st:List Stmt}{t:TS}(h:PSs X.nox st t):PSs X st t:=λpins s σ H D I hw =>
 DF (h pins s σ H D (I.mv _) hw) (λ_ _ q=>q.fN) λ_ _ z=>False.elim z
end
section
variable  {X:Cx}{st:Stmt}{rest:List Stmt}{t u:TS}{e:Expr}{te:TE}{pos:Pos}
def z6:TS:=λD σ H=>D.nx σ H
def y6 (t u:TS):TS:=λD σ H=>t { D with nx:=u D } σ H
theorem aK:PSs X [] z6:=λ_ _ σ H _ I h=>FE ⟨σ,H,I,h⟩
theorem af (h1:PS X st t)(h2:PSs X rest u):PSs X (st :: rest) (y6 t u):=by
 intro pins s σ H D I h
 refine wpAny_execs_cons (thn (h1 pins s σ H { D with nx:=u D } I h) λf s1 q =>?_)
 cases f with
 | next =>
  obtain ⟨σ',H',I',q⟩:=q
  exact h2 pins s1 σ' H' D I' q
 | ret v=>exact q
 | brk=>exact q
 | cont=>exact q
theorem ai (h1:PS X st t):PSs X [st] t:=by
 intro pins s σ H D I h
 refine wpAny_execs_cons (thn (h1 pins s σ H D I h) λf s1 q =>?_)
 cases f with
 | next=>exact FE q
 | ret v=>exact q
 | brk=>exact q
 | cont=>exact q
theorem Inv.quiet {pins:List (Addr×Obj)}{σ:St}{H:Hp}{s:A1}(I:Inv X pins σ H s):interactive X.env=false:=by simp[interactive,I.ok.kind]
def z7 (te:TE):TS:=λD σ H=>te σ H λ_ H1=>D.nx σ H1
theorem bE (he:PE X e te)(hs:swapsWith e none pos.line X.env=pure false:=by rfl):PS X (.Expr e pos) (z7 te):=by
 intro pins s σ H D I h
 exact wpAny_Expr_any (thn (he pins s σ H _ I h) λv s1 ⟨x,H1,I1,r1,q1⟩=>⟨σ,H1,I1,q1⟩) I.quiet hs
def tRet (te:TE):TS:=λD σ H=>te σ H D.rt
theorem aD (he:PE X e te):PS X (.Return (some e) pos) (tRet te):=by
 intro pins s σ H D I h
 exact wpAny_Return_some (thn (he pins s σ H _ I h) λv s1 ⟨x,H1,I1,r1,q1⟩=>⟨x,σ,H1,I1,r1,q1⟩)
def tIfS (c:TT)(t u:TS):TS:=λD σ H=>c σ H λb H1=>if b=true then t D σ H1 else u D σ H1
theorem a6 {c:Expr}{a b:List Stmt}{tc:TT}(hc:PT X c tc)(ha:PSs X a t)(hb:PSs X b u):PS X (.If c a b pos) (tIfS tc t u):=by
 intro pins s σ H D I h
 refine wpAny_If (thn (hc pins s σ H _ I h) λd s1 ⟨H1,I1,q1⟩ =>?_)
 cases d with
 | true=>exact ha pins s1 σ H1 D I1 q1
 | false=>exact hb pins s1 σ H1 D I1 q1
def y7:TS:=λ_ _ _=>False
theorem cA {sts:List Stmt}:PSs X sts y7:=λ_ _ _ _ _ _ h=>h.elim
end
abbrev TG:=V->St->Hp->(St->Hp->Prop)->Prop
abbrev TGs:=List V->St->Hp->(St->Hp->Prop)->Prop
def PG (X:Cx)(target:Expr)(t:TG):Prop :=
 ∀(pins:List (Addr×Obj)) (s:A1) (σ:St) (H:Hp) (v:V) (u:AS) (Q:St->Hp->Prop),Inv X pins σ H s->RelV v u->t v σ H Q →
  Bv (BJ X.prog X.w) X.A (assign target X.env u) (λ_ s'=>∃σ' H',Inv X pins σ' H' s'/\Q σ' H') X.xe s
def PGs (X:Cx)(ts:List Expr)(t:TGs):Prop :=
 ∀(pins:List (Addr×Obj)) (s:A1) (σ:St) (H:Hp) (vs:List V) (us:List AS) (Q:St->Hp->Prop),Inv X pins σ H s->Vals vs us->t vs σ H Q →
  Bv (BJ X.prog X.w) X.A (assignInOrder ((assignEach ts X.env).map (·.2)) us) (λ_ s'=>∃σ' H',Inv X pins σ' H' s'/\Q σ' H') X.xe s
abbrev vp:=V->V->V->Hp->(Hp->Prop)->Prop
def y8 (X:Cx)(t:vp):Prop :=
 ∀(pins:List (Addr×Obj)) (s:A1) (σ:St) (H:Hp) (o i v:V) (ov iv u:AS) (Q:Hp->Prop),Inv X pins σ H s->RelV o ov->RelV i iv->RelV v u->t o i v H Q →
  Bv (BJ X.prog X.w) X.A (setItem ov iv u) (λ_ s'=>∃H',Inv X pins σ H' s'/\Q H') X.xe s
abbrev TIp:=V->V->Hp->VK->Prop
def PIp (X:Cx)(op:Operator)(t:TIp):Prop :=
 ∀(pins:List (Addr×Obj)) (s:A1) (σ:St) (H:Hp) (x y:V) (v u:AS) (Q:VK),Inv X pins σ H s->RelV x v->RelV y u->t x y H Q →
  Bv (BJ X.prog X.w) X.A (inplaceOp op v u) (EP X pins σ Q) X.xe s
section
variable  {X:Cx}{pos:Pos}
def gY (i:Nat):TG:=λv σ H Q=>Q (σ.set i (some v)) H
theorem aJ {i:Nat}{x:Str}(hN:X.N.Nodup)(hi:X.N[i]? = some x)(hx:Loc X.env.scope x)(hf:X.fn x=true\/X.env.scope.names.lookup x=some .local:=by first | exact .inl rfl | exact .inr rfl | assumption):PG X (.Name x pos) (gY i):=by
 intro pins s σ H v u Q I r h
 exact wpAny_assign_Name (oX I hN hi hx r (λs' I'=>⟨_,H,I',h⟩) hf)
def z8:TGs:=λvs σ H Q=>vs=[]/\Q σ H
def vq (t:TG)(u:TGs):TGs:=λvs σ H Q=>∃v r,vs=v :: r/\t v σ H λσ' H'=>u r σ' H' Q
theorem w9:PGs X [] z8:=by
 intro pins s σ H vs us Q I r h
 obtain ⟨e,h⟩:=h
 subst e
 cases r
 exact assignInOrder_nil ⟨σ,H,I,h⟩
theorem oY {e:Expr}{es:List Expr}{t:TG}{u:TGs}(h1:PG X e t)(h2:PGs X es u)
  (hs:(assignEach (e :: es) X.env).map (·.2)=assign e X.env :: (assignEach es X.env).map (·.2):=by rfl):PGs X (e :: es) (vq t u):=by
 intro pins s σ H vs us Q I r h
 obtain ⟨v,vr,e1,h⟩:=h
 subst e1
 cases r with
 | cons r rr =>
  rw[hs]
  refine assignInOrder_cons (thn (h1 pins s σ H _ _ _ I r h) λ_ s1 ⟨σ1,H1,I1,q1⟩ =>?_)
  exact h2 pins s1 σ1 H1 _ _ Q I1 rr q1
def z9 (K:A0)(n:Nat)(t:TGs):TG:=λv σ H Q=>∃a xs,v = .ref a/\SqT K H a xs/\xs.length=n/\t xs σ H Q
theorem y9 {es:List Expr}{k:Nat}{t:TGs}{n:Nat}(hc:X.calm=true)(h:PGs X es t)
  (hn:(assignEach es X.env).length=n:=by rfl) (hst:(assignEach es X.env).findIdx? (·.1)=none:=by rfl):PG X (.Tuple es k pos) (z9 X.K n t):=by
 intro pins s σ H v u Q I r hw
 obtain ⟨a,xs,e1,hq,hl,hw⟩:=hw
 subst e1
 cases r
 obtain ⟨its,rv,ht,hz⟩:=I.tuple hq
 refine assign_Tuple_tuple (I.ok.hd hc) ht (by simp[hn, <- hl,rv.length]) hst λh' hx =>?_
 have I1:Inv X pins σ H { s with heap:=h' }:=I.kept (t':=s.toks) λb o e=>hx b o (Bz (Bc e)) e
 exact h pins _ σ H xs _ Q I1 (by simpa using rv) hw
def gSub (to ti:TE)(t:vp):TG:=λv σ H Q=>to σ H λo H1=>ti σ H1 λi H2=>t o i v H2 λH3=>Q σ H3
theorem zc {o i:Expr}{to ti:TE}{t:vp}(ho:PE X o to)(hi:PE X i ti)(hs:y8 X t)
    (ha:∀v,assign (.Subscript o i pos) X.env v=(do
      let ov ← Fg [v] (eval o X.env)
      let iv ← Fg [v,ov] (eval i X.env)
      standAt pos
      Fg [v,ov,iv] (setItem ov iv v)
      release [v,ov,iv] []):=by intro _;rfl):PG X (.Subscript o i pos) (gSub to ti t):=by
  intro pins s σ H v u Q I r h
  rw[ha]
  refine AO (B8 (thn (ho pins s σ H _ I h) λov s1 ⟨x,H1,I1,r1,q1⟩ =>?_))
  refine AO (B8 (thn (hi pins s1 σ H1 _ I1 q1) λiv s2 ⟨y,H2,I2,r2,q2⟩ =>?_))
  refine AO (Fx (AO (B8 (thn (hs pins s2 σ H2 x y v ov iv u _ I2 r1 r2 r q2) λ_ s3 ⟨H3,I3,q3⟩ =>?_))))
  exact wpAny_release ⟨σ,H3,I3,q3⟩
def zd (te:TE)(g:TG):TS:=λD σ H=>te σ H λx H1=>g x σ H1 D.nx
theorem ze {tg e:Expr}{te:TE}{g:TG}(he:PE X e te)(hg:PG X tg g)(hs:swapsWithSole [tg] e pos.line X.env=pure false:=by rfl)(hw:swappedStores [tg] e X.env=pure none:=by rfl)
  (h1:(assignEach [tg] X.env).map (·.2)=[assign tg X.env]:=by rfl):PS X (.Assign [tg] e pos) (zd te g):=by
 intro pins s σ H D I h
 refine wpAny_Assign_stores (thn (he pins s σ H _ I h) λv s1 ⟨x,H1,I1,r1,q1⟩ =>?_) hs hw
 rw[h1]
 exact thn (hg pins s1 σ H1 x v _ I1 r1 q1) λ_ s2 q=>q
theorem au {i:Nat}{x:Str}{e:Expr}{te:TE}{pos':Pos}(hN:X.N.Nodup)(hi:X.N[i]? = some x)(hx:Loc X.env.scope x)(he:PE X e te)(hs:swapsWith e (some (.Name x pos')) pos.line X.env=pure false:=by rfl)(hf:X.fn x=true\/X.env.scope.names.lookup x=some .local:=by first | exact .inl rfl | exact .inr rfl | assumption) :
  PS X (.Assign [.Name x pos'] e pos) (zd te (gY i)):=by
 intro pins s σ H D I h
 refine wpAny_Assign_Name (thn (he pins s σ H _ I h) λv s1 ⟨y,H1,I1,r1,q1⟩ =>?_) hs
 exact oX I1 hN hi hx r1 (λs2 I2=>⟨_,H1,I2,q1⟩) hf
def Aa (to ti te:TE)(tget:V->V->Hp->VK->Prop)(tip:TIp)(tset:vp):TS:=λD σ H=>to σ H λo H1=>ti σ H1 λi H2=>tget o i H2 λx H3=>te σ H3 λy H4=>tip x y H4 λz H5=>tset o i z H5 λH6=>D.nx σ H6
def Ab (X:Cx)(t:V->V->Hp->VK->Prop):Prop :=
 ∀(pins:List (Addr×Obj)) (s:A1) (σ:St) (H:Hp) (o i:V) (ov iv:AS) (Q:VK),Inv X pins σ H s->RelV o ov->RelV i iv->t o i H Q →
  Bv (BJ X.prog X.w) X.A (getItem ov iv) (EP X pins σ Q) X.xe s
theorem xc {o i e:Expr}{to ti te:TE}{tget:V->V->Hp->VK->Prop}{tip:TIp}{tset:vp}{op:Operator}{tpos:Pos}(ho:PE X o to)(hi:PE X i ti)(hg:Ab X tget)(he:PE X e te)(hp:PIp X op tip)(hs:y8 X tset)
    (ha:∀ov iv new,augStore i ov iv new=(do Fg [new,ov,iv] (setItem ov iv new);release [new,ov,iv] [];pure .next):=by intros;rfl):PS X (.AugAssign (.Subscript o i tpos) op e pos) (Aa to ti te tget tip tset):=by
  intro pins s σ H D I h
  refine wpAny_AugAssign_SubscriptAny (thn (ho pins s σ H _ I h) λov s1 ⟨x1,H1,I1,r1,q1⟩ =>?_) ha
  refine thn (hi pins s1 σ H1 _ I1 q1) λiv s2 ⟨x2,H2,I2,r2,q2⟩ =>?_
  refine thn (hg pins s2 σ H2 x1 x2 ov iv _ I2 r1 r2 q2) λold s3 ⟨x3,H3,I3,r3,q3⟩ =>?_
  refine thn (he pins s3 σ H3 _ I3 q3) λv s4 ⟨x4,H4,I4,r4,q4⟩ =>?_
  refine thn (hp pins s4 σ H4 x3 x4 old v _ I4 r3 r4 q4) λnew s5 ⟨x5,H5,I5,r5,q5⟩ =>?_
  exact thn (hs pins s5 σ H5 x1 x2 x5 ov iv new _ I5 r1 r2 r5 q5) λ_ s6 ⟨H6,I6,q6⟩=>⟨σ,H6,I6,q6⟩
def ipI (f:Int->Int->Int):TIp:=λx y H Q=>∃i j,x = .int i/\y = .int j/\Q (.int (f i j)) H
theorem zf:PIp X .Sub (ipI λi j=>i-j):=by
 intro pins s σ H x y v u Q I r1 r2 h
 obtain ⟨i,j,e1,e2,q⟩:=h
 subst e1;subst e2
 obtain ⟨t,rfl⟩:=r1
 obtain ⟨t',rfl⟩:=r2
 exact isub_int ⟨.int _,H,I.tok _,⟨_,rfl⟩,q⟩
end
section
variable  {X:Cx}{pos:Pos}
def vt (c:TT)(tb:TS):TS:=λD σ H=>∃W:Nat->St->Hp->Prop,(∃m,W m σ H)/\∀m σ H,W m σ H →
 c σ H λb H1=>if b=true then ∃N:St->Hp->Prop,(∀σ' H',N σ' H'->∃m',m'<m/\W m' σ' H')/\tb { D with nx:=N,ct:=N,bk:=D.nx } σ H1 else D.nx σ H1
theorem fO {c:Expr}{body:List Stmt}{tc:TT}{tb:TS}(hp:PassesOwn (BJ X.prog X.w) X.A X.env X.xe)(hc:PT X c tc)(hb:PSs X body tb):PS X (.While c body [] pos) (vt tc tb):=by
 intro pins s σ H D I h
 obtain ⟨W,⟨m0,w0⟩,turn⟩:=h
 refine wpAny_While (codeAny_whileLoop (λn s'=>∃σ' H',Inv X pins σ' H' s'/\W n σ' H') ?_ m0 ⟨σ,H,I,w0⟩)
 rintro n s1 ⟨σ1,H1,I1,w1⟩
 refine D2 hp (thn (hc pins s1 σ1 H1 _ I1 (turn n σ1 H1 w1)) λb s2 ⟨H2,I2,q2⟩ =>?_)
 cases b with
 | true =>
  obtain ⟨N,hN,q2⟩:=q2
  rw[if_pos rfl]
  refine D2 hp (thn (hb pins s2 σ1 H2 _ I2 q2) λf s3 q3 =>?_)
  cases f with
  | next =>
   obtain ⟨σ3,H3,I3,n3⟩:=q3
   obtain ⟨m',hm,w3⟩:=hN σ3 H3 n3
   exact ⟨m',hm,σ3,H3,I3,w3⟩
  | cont =>
   obtain ⟨σ3,H3,I3,n3⟩:=q3
   obtain ⟨m',hm,w3⟩:=hN σ3 H3 n3
   exact ⟨m',hm,σ3,H3,I3,w3⟩
  | brk=>exact q3
  | ret v=>exact q3
 | false =>
  rw[if_neg Bf]
  exact FE ⟨σ1,H2,I2,q2⟩
end
structure It where
 go:Nat->Hp->Prop
 yld:Nat->Hp->V->Hp->Prop
 stop:Nat->Hp->Prop
def nP (X:Cx)(pins:List (Addr×Obj))(H:Hp)(b:Addr):Prop :=
 H b=none/\b≠X.env.locals/\b∉X.fs/\(b∈X.ex\/X.s₀.heap.objs.size<=b)/\(∀x c,X.env.cells.lookup x=some c->c≠b)/\∀p∈X.pn++pins,p.1≠b
theorem Inv.zg {X:Cx}{pins:List (Addr×Obj)}{σ:St}{H H':Hp}{s:A1}{b:Addr}(I:Inv X pins σ H s)(hb:s.heap.objs.size<=b)(hn:H' b=none):nP X pins H' b:=by
 refine ⟨hn,D5 (Bm I.lt hb),I.yY hb,.inr (BL I.sz hb),λx c e z =>?_,λp hp z =>?_⟩
 ·obtain ⟨v,q⟩:=I.cell x c e
  exact absurd (Bm q.lt (by rw[z];exact hb)) (Cp _)
 ·exact absurd (Bm (Bc (I.pin p hp).1) (by rw[z];exact hb)) (Cp _)
structure Turn (P:Bi)(w:BQ)(K:A0)(tg:Expr)(J:It)(fp:List Addr)(it:Addr)(tn:Nat->Heap->Prop):Prop where
 mem:it∈fp
 obj:∀i h,tn i h->∀b∈fp,∃o,h.get? b=some o/\∀v,o.data ≠ .cell v
 keep:∀i h h',tn i h->(∀b∈fp,∀o,h.get? b=some o->h'.get? b=some o)->tn i h'
 item:∀(X:Cx),X.prog=P->X.w=w->X.K=K->X.calm=true->∀(i:Nat) (pins:List (Addr×Obj)) (s:A1) (σ:St) (H:Hp) (E:AS->A1->Prop),Inv X pins σ H s->(∀b∈fp,nP X pins H b)->tn i s.heap->J.go i H →
  Bv (BJ P w) X.A (pyNext (.ref it)) (λr s1=>∃u,r=some u ∧
   Bv (BJ P w) X.A (letOwnedTupleGo tg (.ref it) u) (λ_ s2=>∃x H',Inv X pins σ H' s2/\RelV x u/\J.yld i H x H'/\tn (i+1) s2.heap/\∀b∈fp,H' b=none) E s1) E s
 done:∀(X:Cx),X.prog=P->X.w=w->X.K=K->X.calm=true->∀(i:Nat) (pins:List (Addr×Obj)) (s:A1) (σ:St) (H:Hp) (E:AS->A1->Prop),Inv X pins σ H s->(∀b∈fp,nP X pins H b)->tn i s.heap->J.stop i H →
  Bv (BJ P w) X.A (pyNext (.ref it)) (λr s1=>r=none/\Inv X pins σ H s1) E s
 self:∀(A:Cc) (i:Nat) (s:A1) (Q:AS->A1->Prop) (E:AS->A1->Prop),tn i s.heap->Q (.ref it) s->Bv (BJ P w) A (pyIter (.ref it)) Q E s
abbrev TI:=St->Hp->(It->Hp->Prop)->Prop
def PIE (X:Cx)(pins:List (Addr×Obj))(σ:St)(tg:Expr)(R:It->Hp->Prop)(itv:AS)(s2:A1):Prop :=
 ∃(it:Addr) (fp:List Addr) (tn:Nat->Heap->Prop) (J:It) (H':Hp),itv = .ref it/\Inv X pins σ H' s2/\Turn X.prog X.w X.K tg J fp it tn/\tn 0 s2.heap/\(∀b∈fp,nP X pins H' b)/\R J H'
def PI (X:Cx)(tg iter:Expr)(wi:TI):Prop :=
 ∀(pins:List (Addr×Obj)) (s:A1) (σ:St) (H:Hp) (R:It->Hp->Prop),Inv X pins σ H s->wi σ H R →
  Bv (BJ X.prog X.w) X.A (eval iter X.env) (λv s1=>Bv (BJ X.prog X.w) X.A (pyIter v) (PIE X pins σ tg R) X.xe s1) X.xe s
theorem vv {M:Model}{A:Cc}{E:AS->A1->Prop}{s:A1}{tg:Expr}{it:Addr}{u:AS}{o:Obj}{n:String}{vs:Array AS}{Q:Unit->A1->Prop}(ho:s.heap.get? it=some o)(hc:o.cls = .type n)(hd:o.data = .fields vs)
    (hn:["enumerate", "zip", "dict_itemiterator", "dict_reverseitemiterator", "odict_iterator", "itertools.zip_longest", "itertools.pairwise"].contains n=false) (hQ:Q () s):Bv M A (letOwnedTupleGo tg (.ref it) u) Q E s:=by
  unfold letOwnedTupleGo
  cases tg <;> first
    | exact AV hQ
    | (cases u <;> first
        | exact AV hQ
        | (refine AO (G4 ho ?_)
           rw[hc,hd]
           show Bv M A (if (["enumerate", "zip", "dict_itemiterator", "dict_reverseitemiterator", "odict_iterator", "itertools.zip_longest", "itertools.pairwise"].contains n && vs[0]? == some (Hf _))=true then _ else _) Q E s
           rw[if_neg (by intro h;rw[hn,FU] at h;cases h)]
           exact AV hQ))
def Itl (K:A0)(a:Addr):It :=
 ⟨λi H=>∃xs x,SqL K H a xs/\xs[i]? = some x,λi H x H'=>H'=H/\∀xs,SqL K H a xs->xs[i]? = some x,λi H=>∃xs,SqL K H a xs/\xs.length<=i⟩
def Itt (K:A0)(a:Addr):It :=
 ⟨λi H=>∃xs x,SqT K H a xs/\xs[i]? = some x,λi H x H'=>H'=H/\∀xs,SqT K H a xs->xs[i]? = some x,λi H=>∃xs,SqT K H a xs/\xs.length<=i⟩
def Itr (lo:Int)(n:Nat):It:=⟨λi _=>i<n,λi H x H'=>H'=H/\x = .int (lo+i),λi _=>n<=i⟩
theorem tX {P:Bi}{w:BQ}{K:A0}{tg:Expr}(a it:Addr):Turn P w K tg (Itl K a) [it] it (λi h=>h.IsListIter it a i) where
 mem:=by simp
 obj:=λi h st b hb=>by
  have e:b=it:=by simpa using hb
  subst e
  obtain ⟨o,e,c,d⟩:=st
  exact ⟨o,e,λv z=>by rw[d] at z;cases z⟩
 keep:=λi h h' st k=>st.at λo e=>k it (by simp) o e
 item:=by
  intro X hP hw hK hc i pins s σ H E I hf st hg
  subst hP hw hK
  obtain ⟨xs,x,hq,hx⟩:=hg
  obtain ⟨its,rv,p,hz⟩:=I.list hq
  obtain ⟨u,hu,ru⟩:=rv.get hx
  obtain ⟨f0,f1,f2,f3,f4,f5⟩:=hf it (by simp)
  refine wpAny_pyNext_list_item st p.isList (x:=u) (by simpa using hu) λh' st' sb =>?_
  have I1:Inv X pins σ H { s with heap:=h' }:=I.turned (t':=s.toks) (λb o hb e=>(sb.2 b hb).trans e) f0 f1 f3 f4 f5
  obtain ⟨o,e,c,d⟩:=id st'
  exact ⟨u,rfl,vv (s:={ s with heap:=h' }) e c d (by decide) ⟨x,H,I1,ru,⟨rfl,λys hy=>by rw[I.vo hy hq];exact hx⟩,st',λb hb=>(hf b hb).1⟩⟩
 done:=by
  intro X hP hw hK hc i pins s σ H E I hf st hg
  subst hP hw hK
  obtain ⟨xs,hq,hx⟩:=hg
  obtain ⟨its,rv,p,hz⟩:=I.list hq
  obtain ⟨f0,f1,f2,f3,f4,f5⟩:=hf it (by simp)
  have hl:=rv.length
  exact wpAny_pyNext_list_end (I.ok.hd hc) st p.isList (by simp;lia) λh' eb=>⟨rfl,I.turned (t':=s.toks) (λb o hb e=>eb b o hb e) f0 f1 f3 f4 f5⟩
 self:=λ_ _ _ _ _ st h=>wpAny_pyIter_listiter st h
theorem qp {P:Bi}{w:BQ}{K:A0}{tg:Expr}(a it:Addr):Turn P w K tg (Itt K a) [it] it (λi h=>h.IsTupleIter it a i) where
 mem:=by simp
 obj:=λi h st b hb=>by
  have e:b=it:=by simpa using hb
  subst e
  obtain ⟨o,e,c,d⟩:=st
  exact ⟨o,e,λv z=>by rw[d] at z;cases z⟩
 keep:=λi h h' st k=>st.at λo e=>k it (by simp) o e
 item:=by
  intro X hP hw hK hc i pins s σ H E I hf st hg
  subst hP hw hK
  obtain ⟨xs,x,hq,hx⟩:=hg
  obtain ⟨its,rv,p,hz⟩:=I.tuple hq
  obtain ⟨u,hu,ru⟩:=rv.get hx
  obtain ⟨f0,f1,f2,f3,f4,f5⟩:=hf it (by simp)
  refine wpAny_pyNext_tuple_item st (show s.heap.IsTuple a its.toArray from p) (x:=u) (by simpa using hu) λh' st' sb =>?_
  have I1:Inv X pins σ H { s with heap:=h' }:=I.turned (t':=s.toks) (λb o hb e=>(sb.2 b hb).trans e) f0 f1 f3 f4 f5
  obtain ⟨o,e,c,d⟩:=id st'
  exact ⟨u,rfl,vv (s:={ s with heap:=h' }) e c d (by decide) ⟨x,H,I1,ru,⟨rfl,λys hy=>by rw[I.mI hy hq];exact hx⟩,st',λb hb=>(hf b hb).1⟩⟩
 done:=by
  intro X hP hw hK hc i pins s σ H E I hf st hg
  subst hP hw hK
  obtain ⟨xs,hq,hx⟩:=hg
  obtain ⟨its,rv,p,hz⟩:=I.tuple hq
  obtain ⟨f0,f1,f2,f3,f4,f5⟩:=hf it (by simp)
  have hl:=rv.length
  exact wpAny_pyNext_tuple_end (I.ok.hd hc) st (show s.heap.IsTuple a its.toArray from p) (by simp;lia) λh' eb=>⟨rfl,I.turned (t':=s.toks) (λb o hb e=>eb b o hb e) f0 f1 f3 f4 f5⟩
 self:=λ_ _ _ _ _ st h=>wpAny_pyIter_tupleiter st h
theorem qq {P:Bi}{w:BQ}{K:A0}{tg:Expr}(it:Addr)(lo:Int)(n:Nat):Turn P w K tg (Itr lo n) [it] it (λi h=>IsRangeIter h it (lo+(i:Nat)*1) ((n:Int)-(i:Nat)) 1) where
 mem:=by simp
 obj:=λi h st b hb=>by
  have e:b=it:=by simpa using hb
  subst e
  exact ⟨_,st,λv z=>by
   have z':Data.fields _=Data.cell v:=z
   cases z'⟩
 keep:=λi h h' st k=>k it (by simp) _ st
 item:=by
  intro X hP hw hK hc i pins s σ H E I hf st hg
  subst hP hw hK
  obtain ⟨f0,f1,f2,f3,f4,f5⟩:=hf it (by simp)
  have W:=Walks.range (prog:=X.prog) (w:=X.w) (I.ok.hd hc) it lo 1 n
  refine W.item i s _ _ hg st λv h' tk hv st' kk =>?_
  obtain ⟨t,rfl⟩:=hv
  have I1:Inv X pins σ H { s with heap:=h',toks:=tk }:=I.turned (λb o hb e=>kk b o (by simpa using hb) e) f0 f1 f3 f4 f5
  refine ⟨_,rfl,vv (s:={ s with heap:=h',toks:=tk }) (n := "range_iterator") st' rfl rfl (by decide) ⟨.int (lo+i),H,I1,⟨t,?_⟩,⟨rfl,rfl⟩,st',λb hb=>(hf b hb).1⟩⟩
  rw[Int.mul_one]
 done:=by
  intro X hP hw hK hc i pins s σ H E I hf st hg
  subst hP hw hK
  obtain ⟨f0,f1,f2,f3,f4,f5⟩:=hf it (by simp)
  exact wpAny_pyNext_range_end (I.ok.hd hc) st (by have:n<=i:=hg;lia) λh' eb=>⟨rfl,I.turned (t':=s.toks) (λb o hb e=>eb b o hb e) f0 f1 f3 f4 f5⟩
 self:=λ_ _ _ _ _ st h=>wpAny_pyIter_rangeiter st h
open PySem PySem.Spec PyProof.Rows
section
variable  {X:Cx}{tg:Expr}
def Ac (K:A0)(tl:TE):TI:=λσ H R=>tl σ H λx H1=>∃a,x = .ref a/\(∃xs,SqL K H1 a xs)/\R (Itl K a) H1
def iTup (K:A0)(tl:TE):TI:=λσ H R=>tl σ H λx H1=>∃a,x = .ref a/\(∃xs,SqT K H1 a xs)/\R (Itt K a) H1
theorem dC {l:Expr}{tl:TE}(hl:PE X l tl):PI X tg l (Ac X.K tl):=by
 intro pins s σ H R I h
 refine thn (hl pins s σ H _ I h) λv s1 ⟨x,H1,I1,r1,q1⟩ =>?_
 obtain ⟨a,e,⟨xs,hq⟩,q⟩:=q1
 subst e
 cases r1
 obtain ⟨its,rv,p,hz⟩:=I1.list hq
 refine Fd p.isList ?_
 refine ⟨s1.heap.objs.size,[s1.heap.objs.size],_,_,H1,rfl,I1.kept (t':=s1.toks) λb o e=>AU _ e,tX a _,⟨_,Bd _ rfl,rfl,rfl⟩,λb hb =>?_,q⟩
 have e:b=s1.heap.objs.size:=by simpa using hb
 subst e
 exact I1.zg (AY _) (I1.hok.fresh (AY _))
theorem cX {l:Expr}{tl:TE}(hl:PE X l tl):PI X tg l (iTup X.K tl):=by
 intro pins s σ H R I h
 refine thn (hl pins s σ H _ I h) λv s1 ⟨x,H1,I1,r1,q1⟩ =>?_
 obtain ⟨a,e,⟨xs,hq⟩,q⟩:=q1
 subst e
 cases r1
 obtain ⟨its,rv,p,hz⟩:=I1.tuple hq
 refine FP (show s1.heap.IsTuple a its.toArray from p) ?_
 refine ⟨s1.heap.objs.size,[s1.heap.objs.size],_,_,H1,rfl,I1.kept (t':=s1.toks) λb o e=>AU _ e,qp a _,⟨_,Bd _ rfl,rfl,rfl⟩,λb hb =>?_,q⟩
 have e:b=s1.heap.objs.size:=by simpa using hb
 subst e
 exact I1.zg (AY _) (I1.hok.fresh (AY _))
theorem vw {pins:List (Addr×Obj)}{σ:St}{H:Hp}{s:A1}{R:It->Hp->Prop}{E:AS->A1->Prop}{lo hi:Int}{t u v:Tok}{tk:Nat}(I:Inv X pins σ H s)(h1 : -(2 ^ 62)<=lo)(h2:lo<2 ^ 62)(h3 : -(2 ^ 62)<=hi)(h4:hi<2 ^ 62)
  (q:R (Itr lo (hi-lo).toNat) H):Bv (BJ X.prog X.w) X.A (pyIter (.ref s.heap.objs.size)) (PIE X pins σ tg R) E { s with heap:=s.heap.push { cls :=.type "range",data :=.fields #[.int lo t,.int hi u,.int 1 v] },toks:=tk }:=by
 refine wpAny_pyIter_range (IsRange.new ..) (small_one h1 h2 h3 h4) ?_
 have I1:Inv X pins σ H { s with heap:=s.heap.push { cls :=.type "range",data :=.fields #[.int lo t,.int hi u,.int 1 v] },toks:=tk }:=I.kept λb o e=>AU _ e
 refine ⟨(s.heap.push { cls :=.type "range",data :=.fields #[.int lo t,.int hi u,.int 1 v] }).objs.size,[(s.heap.push { cls :=.type "range",data :=.fields #[.int lo t,.int hi u,.int 1 v] }).objs.size],_,_,H,rfl,
  I1.kept (t':=tk) λb o e=>AU _ e,qq _ lo (hi-lo).toNat,?_,λb hb =>?_,q⟩
 ·have e1:lo+((0:Nat):Int)*1=lo:=by simp
  have e2:(((hi-lo).toNat:Nat):Int)-((0:Nat):Int)=Builtin.Range.rangeSize lo hi 1:=by rw[HF];split <;> lia
  show IsRangeIter _ _ (lo+((0:Nat):Int)*1) ((((hi-lo).toNat:Nat):Int)-((0:Nat):Int)) 1
  rw[e1,e2]
  exact Bd _ rfl
 ·have e:b=(s.heap.push { cls :=.type "range",data :=.fields #[.int lo t,.int hi u,.int 1 v] }).objs.size:=by simpa using hb
  subst e
  exact I1.zg (AY _) (I1.hok.fresh (AY _))
def Ad (ta:TA):TI:=λσ H R=>ta σ H λvs H1=>∃j:Int,vs=[.int j] /\ -(2 ^ 62)<=j/\j<2 ^ 62/\R (Itr 0 j.toNat) H1
theorem aQ {a:Expr}{ta:TA}{p pos:Pos}(hg:Gl X "range")(hm:X.mg "range" = none)(ha:PA X [a] ta)(hs:Cm [a] X.env=[(false,eval a X.env)]:=by rfl):PI X tg (.Call (.Name "range" p) [a] [] pos) (Ad ta):=by
 intro pins s σ H R I h
 refine Call_ (jj I hg hm boot_range (FA (thn (ha pos pins s σ H _ I h) λus s1 ⟨vs,H1,I1,r1,q1⟩ =>?_) hs rfl))
 obtain ⟨j,e,q1,q2,q⟩:=q1
 subst e
 cases r1 with
 | cons r rr =>
  cases rr
  obtain ⟨t,rfl⟩:=r
  exact call_range_1 (vw I1 (by lia) (by lia) q1 q2 (by simpa using q))
def tFor (wi:TI)(g:TG)(tb:TS):TS:=λD σ H=>wi σ H λJ H1=>∃W:Nat->Nat->St->Hp->Prop,(∃m,W 0 m σ H1)/\∀i m σ H,W i m σ H →
 (J.stop i H/\D.nx σ H)\/(J.go i H/\∃N:St->Hp->Prop,(∀σ' H',N σ' H'->∃m',m'<m/\W (i+1) m' σ' H')/\∀x H',J.yld i H x H'->g x σ H' λσ2 H2=>tb { D with nx:=N,ct:=N,bk:=D.nx } σ2 H2)
def hW (fp:List Addr)(h:Heap):List (Addr×Obj):=fp.filterMap λb=>(h.get? b).map λo=>(b,o)
theorem cY {fp:List Addr}{h:Heap}{b:Addr}{o:Obj}(hb:b∈fp)(e:h.get? b=some o):(b,o)∈hW fp h:=EJ.mpr ⟨b,hb,by rw[e];rfl⟩
theorem mJ {fp:List Addr}{h:Heap}{p:Addr×Obj}(hp:p∈hW fp h):p.1∈fp/\h.get? p.1=some p.2:=by
 obtain ⟨b,hb,e⟩:=EJ.mp hp
 cases q:h.get? b with
 | none=>rw[q] at e;cases e
 | some o =>
  rw[q] at e
  have e':(b,o)=p:=BC e
  subst e'
  exact ⟨hb,q⟩
theorem Inv.pinned {pins:List (Addr×Obj)}{σ:St}{H:Hp}{s:A1}{fp:List Addr}(I:Inv X pins σ H s)(hf:∀b∈fp,nP X pins H b)(ho:∀b∈fp,∃o,s.heap.get? b=some o/\∀v,o.data ≠ .cell v):Inv X (pins++hW fp s.heap) σ H s :=
 I.iB λp hp=>(A7.mp hp).elim (λz=>I.pin p (Bn _ z)) λz=>by
  obtain ⟨hb,e⟩:=mJ z
  obtain ⟨f0,f1,f2,_⟩:=hf p.1 hb
  obtain ⟨o,e',d⟩:=ho p.1 hb
  rw[e] at e';cases e'
  exact ⟨e,f0,f1,f2,d⟩
theorem Inv.dW {pins pl:List (Addr×Obj)}{σ:St}{H:Hp}{s:A1}(I:Inv X (pins++pl) σ H s):Inv X pins σ H s:=I.iB λp hp=>I.pin p (Bn _ (BD _ hp))
theorem bR {iter:Expr}{body:List Stmt}{wi:TI}{g:TG}{tb:TS}{pos:Pos}(hp:PassesOwn (BJ X.prog X.w) X.A X.env X.xe)(hc:X.calm=true)(hi:PI X tg iter wi)(hg:PG X tg g)(hb:PSs X body tb)
  (hs:∀x,foldedSetIterable iter X.env x=pure x:=by intro _;rfl):PS X (.For tg iter body [] pos) (tFor wi g tb):=by
 intro pins s σ H D I h
 refine wpAny_For (thn (hi pins s σ H _ I h) λv s1 h1=>thn h1 λitv s2 h2 =>?_) hs
 obtain ⟨it,fp,tn,J,H2,e,I2,T,st2,f2,W,⟨m0,w0⟩,turn⟩:=h2
 subst e
 have stat:∀{H':Hp},(∀b∈fp,H' b=none)->∀b∈fp,nP X pins H' b:=λhn b hb=>⟨hn b hb,(f2 b hb).2⟩
 refine codeAny_forLoop_any (λn s'=>∃i σ' H',Inv X pins σ' H' s'/\tn i s'.heap/\(∀b∈fp,H' b=none)/\W i n σ' H') ?_ m0 ⟨0,σ,H2,I2,st2,λb hb=>(f2 b hb).1,w0⟩
 rintro n s3 ⟨i,σ3,H3,I3,st3,fr3,w3⟩
 rcases turn i n σ3 H3 w3 with ⟨stop,qn⟩ | ⟨go,N,hN,step⟩
 ·refine D2 hp (thn (T.done X rfl rfl rfl hc i pins s3 σ3 H3 X.xe I3 (stat fr3) st3 stop) λr s4 ⟨hr,I4⟩ =>?_)
  subst hr
  exact FE ⟨σ3,H3,I4,qn⟩
 ·refine D2 hp (thn (T.item X rfl rfl rfl hc i pins s3 σ3 H3 X.xe I3 (stat fr3) st3 go) λr s4 ⟨u,hr,h4⟩ =>?_)
  subst hr
  refine D2 hp (thn h4 λ_ s5 ⟨x,H5,I5,r5,y5,st5,fr5⟩ =>?_)
  have I5':=I5.pinned (stat fr5) (T.obj _ _ st5)
  refine D2 hp (thn (hg _ s5 σ3 H5 x u _ I5' r5 (step x H5 y5)) λ_ s6 ⟨σ6,H6,I6,q6⟩ =>?_)
  refine D2 hp (thn (hb _ s6 σ6 H6 _ I6 q6) λf s7 q7 =>?_)
  have again:∀{σ7:St} {H7:Hp},Inv X (pins++hW fp s5.heap) σ7 H7 s7->N σ7 H7->∃m,m<n/\∃i σ' H',Inv X pins σ' H' s7/\tn i s7.heap/\(∀b∈fp,H' b=none)/\W i m σ' H':=λ{σ7 H7} I7 n7=>by
   obtain ⟨m',hm,w7⟩:=hN σ7 H7 n7
   refine ⟨m',hm,i+1,σ7,H7,I7.dW,T.keep _ _ _ st5 λb hb o e=>(I7.pin (b,o) (Bn _ (Bn _ (cY hb e)))).1,λb hb =>?_,w7⟩
   obtain ⟨o,e,d⟩:=T.obj _ _ st5 b hb
   exact (I7.pin (b,o) (Bn _ (Bn _ (cY hb e)))).2.1
  cases f with
  | next=>obtain ⟨σ7,H7,I7,n7⟩:=q7;exact again I7 n7
  | cont=>obtain ⟨σ7,H7,I7,n7⟩:=q7;exact again I7 n7
  | brk=>obtain ⟨σ7,H7,I7,q7⟩:=q7;exact ⟨σ7,H7,I7.dW,q7⟩
  | ret v=>obtain ⟨x7,σ7,H7,I7,r7,q7⟩:=q7;exact ⟨x7,σ7,H7,I7.dW,r7,q7⟩
end
theorem iC {K:A0}{a:Addr}{xs:List V}{g:TG}{tb:TS}{D:Ends}{σ:St}{H:Hp}(Pv:Nat->St->Hp->Prop)(h0:Pv 0 σ H)(hl:∀i σ H,i<=xs.length->Pv i σ H->SqL K H a xs)
  (hs:∀i x σ H,xs[i]? = some x->Pv i σ H->g x σ H λσ2 H2=>tb { D with nx:=Pv (i+1),ct:=Pv (i+1),bk:=D.nx } σ2 H2) (hd:∀σ H,Pv xs.length σ H->D.nx σ H) :
  ∃W:Nat->Nat->St->Hp->Prop,(∃m,W 0 m σ H)/\∀i m σ H,W i m σ H →
   ((Itl K a).stop i H/\D.nx σ H)\/((Itl K a).go i H/\∃N:St->Hp->Prop,(∀σ' H',N σ' H'->∃m',m'<m/\W (i+1) m' σ' H')/\∀x H',(Itl K a).yld i H x H'->g x σ H' λσ2 H2=>tb { D with nx:=N,ct:=N,bk:=D.nx } σ2 H2):=by
 refine ⟨λi m σ H=>m=xs.length-i/\i<=xs.length/\Pv i σ H,⟨xs.length,by simp,BX _,h0⟩,?_⟩
 rintro i m σ H ⟨rfl,hi,p⟩
 have q:=hl i σ H hi p
 by_cases hlt:i<xs.length
 ·refine .inr ⟨⟨xs,xs[i],q,by simp[hlt]⟩,Pv (i+1),λσ' H' p'=>⟨xs.length-(i+1),by lia,rfl,hlt,p'⟩,λx H' y =>?_⟩
  obtain ⟨e,y⟩:=y
  subst e
  exact hs i x σ _ (y xs q) p
 ·have e:i=xs.length:=by lia
  subst e
  exact .inl ⟨⟨xs,q,AY _⟩,hd σ H p⟩
theorem xf {K:A0}{a:Addr}{xs:List V}{g:TG}{tb:TS}{D:Ends}{σ:St}{H:Hp}(Pv:Nat->St->Hp->Prop)(h0:Pv 0 σ H)(hl:∀i σ H,i<=xs.length->Pv i σ H->SqT K H a xs)
  (hs:∀i x σ H,xs[i]? = some x->Pv i σ H->g x σ H λσ2 H2=>tb { D with nx:=Pv (i+1),ct:=Pv (i+1),bk:=D.nx } σ2 H2) (hd:∀σ H,Pv xs.length σ H->D.nx σ H) :
  ∃W:Nat->Nat->St->Hp->Prop,(∃m,W 0 m σ H)/\∀i m σ H,W i m σ H →
   ((Itt K a).stop i H/\D.nx σ H)\/((Itt K a).go i H/\∃N:St->Hp->Prop,(∀σ' H',N σ' H'->∃m',m'<m/\W (i+1) m' σ' H')/\∀x H',(Itt K a).yld i H x H'->g x σ H' λσ2 H2=>tb { D with nx:=N,ct:=N,bk:=D.nx } σ2 H2):=by
 refine ⟨λi m σ H=>m=xs.length-i/\i<=xs.length/\Pv i σ H,⟨xs.length,by simp,BX _,h0⟩,?_⟩
 rintro i m σ H ⟨rfl,hi,p⟩
 have q:=hl i σ H hi p
 by_cases hlt:i<xs.length
 ·refine .inr ⟨⟨xs,xs[i],q,by simp[hlt]⟩,Pv (i+1),λσ' H' p'=>⟨xs.length-(i+1),by lia,rfl,hlt,p'⟩,λx H' y =>?_⟩
  obtain ⟨e,y⟩:=y
  subst e
  exact hs i x σ _ (y xs q) p
 ·have e:i=xs.length:=by lia
  subst e
  exact .inl ⟨⟨xs,q,AY _⟩,hd σ H p⟩
theorem bh {lo:Int}{n:Nat}{g:TG}{tb:TS}{D:Ends}{σ:St}{H:Hp}(Pv:Nat->St->Hp->Prop)(h0:Pv 0 σ H)
  (hs:∀i σ H,i<n->Pv i σ H->g (.int (lo+i)) σ H λσ2 H2=>tb { D with nx:=Pv (i+1),ct:=Pv (i+1),bk:=D.nx } σ2 H2) (hd:∀σ H,Pv n σ H->D.nx σ H) :
  ∃W:Nat->Nat->St->Hp->Prop,(∃m,W 0 m σ H)/\∀i m σ H,W i m σ H →
   ((Itr lo n).stop i H/\D.nx σ H)\/((Itr lo n).go i H/\∃N:St->Hp->Prop,(∀σ' H',N σ' H'->∃m',m'<m/\W (i+1) m' σ' H')/\∀x H',(Itr lo n).yld i H x H'->g x σ H' λσ2 H2=>tb { D with nx:=N,ct:=N,bk:=D.nx } σ2 H2):=by
 refine ⟨λi m σ H=>m=n-i/\i<=n/\Pv i σ H,⟨n,by simp,BX _,h0⟩,?_⟩
 rintro i m σ H ⟨rfl,hi,p⟩
 by_cases hlt:i<n
 ·refine .inr ⟨hlt,Pv (i+1),λσ' H' p'=>⟨n-(i+1),by lia,rfl,hlt,p'⟩,λx H' y =>?_⟩
  obtain ⟨e,y⟩:=y
  subst e y
  exact hs i σ _ hlt p
 ·have e:i=n:=by lia
  subst e
  exact .inl ⟨AY _,hd σ H p⟩
theorem fP {c:TT}{tb:TS}{D:Ends}{σ:St}{H:Hp}(Pv:St->Hp->Prop)(μ:St->Hp->Nat)(h0:Pv σ H)
  (hs:∀σ H,Pv σ H->c σ H λb H1=>if b=true then tb { D with nx:=λσ' H'=>Pv σ' H' /\ μ σ' H'<μ σ H,ct:=λσ' H'=>Pv σ' H' /\ μ σ' H'<μ σ H,bk:=D.nx } σ H1 else D.nx σ H1)
  (mono:∀σ H Q Q',(∀b H1,Q b H1->Q' b H1)->c σ H Q->c σ H Q'):vt c tb D σ H:=by
 refine ⟨λm σ H=>m=μ σ H/\Pv σ H,⟨_,rfl,h0⟩,?_⟩
 rintro m σ H ⟨rfl,p⟩
 refine mono σ H _ _ (λb H1 q =>?_) (hs σ H p)
 cases b with
 | true=>exact ⟨_,λσ' H' ⟨p',l⟩=>⟨_,l,rfl,p'⟩,q⟩
 | false=>exact q
open PySem PySem.Spec PyProof.Rows
abbrev R2:=V->V->Hp->VK->Prop
def OpR (X:Cx)(f:AS->AS->Sem AS)(r:R2):Prop :=
 ∀(pins:List (Addr×Obj)) (s:A1) (σ:St) (H:Hp) (x y:V) (v u:AS) (Q:VK),Inv X pins σ H s->RelV x v->RelV y u->r x y H Q →
  Bv (BJ X.prog X.w) X.A (f v u) (EP X pins σ Q) X.xe s
def UnR (X:Cx)(f:AS->Sem AS)(r:V->Hp->VK->Prop):Prop :=
 ∀(pins:List (Addr×Obj)) (s:A1) (σ:St) (H:Hp) (x:V) (v:AS) (Q:VK),Inv X pins σ H s->RelV x v->r x H Q →
  Bv (BJ X.prog X.w) X.A (f v) (EP X pins σ Q) X.xe s
def bK (X:Cx)(f:AS)(r:List V->Hp->VK->Prop):Prop :=
 ∀(pins:List (Addr×Obj)) (s:A1) (σ:St) (H:Hp) (xs:List V) (us:List AS) (Q:VK),Inv X pins σ H s->Vals xs us->r xs H Q →
  Bv (BJ X.prog X.w) X.A (call f us) (EP X pins σ Q) X.xe s
def TruR (X:Cx)(r:V->Hp->(Bool->Hp->Prop)->Prop):Prop :=
 ∀(pins:List (Addr×Obj)) (s:A1) (σ:St) (H:Hp) (x:V) (v:AS) (Q:Bool->Hp->Prop),Inv X pins σ H s->RelV x v->r x H Q →
  Bv (BJ X.prog X.w) X.A (truthy v) (TP X pins σ Q) X.xe s
def tOp (r:R2)(ta tb:TE):TE:=λσ H Q=>ta σ H λx H1=>tb σ H1 λy H2=>r x y H2 Q
def tUn (r:V->Hp->VK->Prop)(ta:TE):TE:=λσ H Q=>ta σ H λx H1=>r x H1 Q
def rI (C:Int->Int->Prop)(g:Int->Int->V):R2:=λx y H Q=>∃i j,x = .int i/\y = .int j/\C i j/\Q (g i j) H
def rI0 (g:Int->Int->V):R2:=λx y H Q=>∃i j,x = .int i/\y = .int j/\Q (g i j) H
def rU (g:Int->V):V->Hp->VK->Prop:=λx H Q=>∃i,x = .int i/\Q (g i) H
section
variable  {X:Cx}{a b c:Expr}{ta tb tc:TE}{pos:Pos}
theorem zh (ha:PE X a ta)(hb:PE X b tb){pins:List (Addr×Obj)}{s:A1}{σ:St}{H:Hp}{R:V->V->Hp->Prop}(I:Inv X pins σ H s)
  (h:ta σ H λx H1=>tb σ H1 λy H2=>R x y H2) {Q:AS->A1->Prop} {f:AS->AS->Sem AS}
  (hf:∀v u s2 x y H2,Inv X pins σ H2 s2->RelV x v->RelV y u->R x y H2->Bv (BJ X.prog X.w) X.A (f v u) Q X.xe s2) :
  Bv (BJ X.prog X.w) X.A (eval a X.env) (λv s₁=>Bv (BJ X.prog X.w) X.A (eval b X.env) (λu s₂=>Bv (BJ X.prog X.w) X.A (f v u) Q X.xe s₂) X.xe s₁) X.xe s:=by
 refine thn (ha pins s σ H _ I h) λv s1 ⟨x,H1,I1,r1,q1⟩ =>?_
 refine thn (hb pins s1 σ H1 _ I1 q1) λu s2 ⟨y,H2,I2,r2,q2⟩ =>?_
 exact hf v u s2 x y H2 I2 r1 r2 q2
theorem aL {op:Operator}{r:R2}(ho:OpR X (binaryOp op) r)(ha:PE X a ta)(hb:PE X b tb):PE X (.BinOp a op b pos) (tOp r ta tb):=by
 intro pins s σ H Q I h
 exact wpAny_BinOp (zh ha hb I h λv u s2 x y H2 I2 rx ry q=>ho pins s2 σ H2 x y v u Q I2 rx ry q)
theorem yy {op:UnaryOp}{r:V->Hp->VK->Prop}(ho:UnR X (unaryOp op) r)(ha:PE X a ta):PE X (.UnaryOp op a pos) (tUn r ta):=by
 intro pins s σ H Q I h
 exact UnaryOp_ (thn (ha pins s σ H _ I h) λv s1 ⟨x,H1,I1,r1,q1⟩=>ho pins s1 σ H1 x v Q I1 r1 q1)
theorem opI {f:AS->AS->Sem AS}{C:Int->Int->Prop}{g:Int->Int->Int}
  (rule:∀(i j:Int) (t u:Tok) (s:A1) (Q:AS->A1->Prop) (E:AS->A1->Prop),C i j->Q (.int (g i j) s.toks) { s with toks:=s.toks+1 }->Bv (BJ X.prog X.w) X.A (f (.int i t) (.int j u)) Q E s) :
  OpR X f (rI C λi j =>.int (g i j)):=by
 intro pins s σ H x y v u Q I rx ry h
 obtain ⟨i,j,rfl,rfl,hc,q⟩:=h
 obtain ⟨t,rfl⟩:=rx
 obtain ⟨t',rfl⟩:=ry
 exact rule i j t t' s _ _ hc ⟨.int (g i j),H,I.tok _,⟨_,rfl⟩,q⟩
theorem Ae {f:AS->AS->Sem AS}{g:Int->Int->Int}
  (rule:∀(i j:Int) (t u:Tok) (s:A1) (Q:AS->A1->Prop) (E:AS->A1->Prop),Q (.int (g i j) s.toks) { s with toks:=s.toks+1 }->Bv (BJ X.prog X.w) X.A (f (.int i t) (.int j u)) Q E s) :
  OpR X f (rI0 λi j =>.int (g i j)):=by
 intro pins s σ H x y v u Q I rx ry h
 obtain ⟨i,j,rfl,rfl,q⟩:=h
 obtain ⟨t,rfl⟩:=rx
 obtain ⟨t',rfl⟩:=ry
 exact rule i j t t' s _ _ ⟨.int (g i j),H,I.tok _,⟨_,rfl⟩,q⟩
theorem zi {f:AS->AS->Sem AS}{g:Int->Int->Bool}
  (rule:∀(i j:Int) (t u:Tok) (s:A1) (Q:AS->A1->Prop) (E:AS->A1->Prop),Q (.bool (g i j)) s->Bv (BJ X.prog X.w) X.A (f (.int i t) (.int j u)) Q E s) :
  OpR X f (rI0 λi j =>.bl (g i j)):=by
 intro pins s σ H x y v u Q I rx ry h
 obtain ⟨i,j,rfl,rfl,q⟩:=h
 obtain ⟨t,rfl⟩:=rx
 obtain ⟨t',rfl⟩:=ry
 exact rule i j t t' s _ _ ⟨.bl (g i j),H,I,rfl,q⟩
def CDiv (i j:Int):Prop:=0<j/\j<1073741824
def CPow (i j:Int):Prop:=0<=j/\j<=1000000/\i.natAbs<2 ^ 64
def zj (i j:Int):Prop:=(-(2 ^ 64)<i/\i<2 ^ 64)\/(-(2 ^ 64)<j/\j<2 ^ 64)
theorem zj.ok {i j:Int}(h:zj i j):IntMulOk i j:=by
 rcases h with ⟨h1,h2⟩ | ⟨h1,h2⟩
 ·exact .of_left (intBits_le_64 h1 h2)
 ·exact .of_right (intBits_le_64 h1 h2)
theorem bS:OpR X (binaryOp .Add) (rI0 λi j =>.int (i+j)):=Ae λ_ _ _ _ _ _ _ q=>add_int q
theorem nQ:OpR X (binaryOp .Sub) (rI0 λi j =>.int (i-j)):=Ae λ_ _ _ _ _ _ _ q=>sub_int q
theorem kD:OpR X (binaryOp .Mult) (rI zj λi j =>.int (i*j)):=opI λ_ _ _ _ _ _ _ hc q=>mul_int q hc.ok
theorem rM:OpR X (binaryOp .FloorDiv) (rI CDiv λi j =>.int (i/j)):=opI λi j _ _ _ _ _ hc q=>by
 have h1:(0:Int)<j:=hc.1
 have h2:j<1073741824:=hc.2
 exact floordiv_int (by lia) (by rw[Int.fdiv_eq_ediv_of_nonneg i (by lia)];exact q) (.inl (PyProof.noPylong_small (by lia)))
theorem hX:OpR X (binaryOp .Mod) (rI (λ_ j=>0<j) λi j =>.int (i%j)):=opI λi j _ _ _ _ _ hc q=>by
 have h1:(0:Int)<j:=hc
 exact mod_int' (by lia) (by rw[Int.fmod_eq_emod_of_nonneg i (by lia)];exact q)
theorem jk:OpR X (binaryOp .Pow) (rI CPow λi j =>.int (i ^ j.toNat)):=opI λ_ _ _ _ _ _ _ hc q=>pow_int_small hc.1 hc.2.1 hc.2.2 q
theorem unI {f:AS->Sem AS}{g:Int->Int}
  (rule:∀(i:Int) (t:Tok) (s:A1) (Q:AS->A1->Prop) (E:AS->A1->Prop),Q (.int (g i) s.toks) { s with toks:=s.toks+1 }->Bv (BJ X.prog X.w) X.A (f (.int i t)) Q E s) :
  UnR X f (rU λi =>.int (g i)):=by
 intro pins s σ H x v Q I rx h
 obtain ⟨i,rfl,q⟩:=h
 obtain ⟨t,rfl⟩:=rx
 exact rule i t s _ _ ⟨.int (g i),H,I.tok _,⟨_,rfl⟩,q⟩
theorem vx:UnR X (unaryOp .USub) (rU λi =>.int (-i)):=unI λ_ _ _ _ _ q=>neg_int q
end
def Af:V->V->Bool
 | .non,.non=>true | .non,.int _=>true | .int _,.non=>true | .non,.bl _=>true | .bl _,.non=>true | .non,.str _=>true | .str _,.non=>true
 | .int _,.int _=>true | .bl _,.bl _=>true | .str _,.str _=>true | .byt _,.byt _=>true
 | .int _,.str _=>true | .str _,.int _=>true | .bl _,.str _=>true | .str _,.bl _=>true
 | _,_=>false
def rEq:R2:=λx y H Q=>Af x y=true/\Q (.bl (decide (x=y))) H
def rNe:R2:=λx y H Q=>Af x y=true/\Q (.bl (!decide (x=y))) H
theorem rN {i j:Int}:decide (V.int i=V.int j)=(i == j):=by
 rw[C8]
 simp
theorem vy {i j:Bool}:decide (V.bl i=V.bl j)=(i == j):=by
 rw[C8]
 simp
theorem rO {i j:Str}:decide (V.str i=V.str j)=(i == j):=by
 rw[C8]
 simp
theorem rQ {i j:Array UInt8}:decide (V.byt i=V.byt j)=(i.toList == j.toList):=by
 rw[C8]
 cases i
 cases j
 simp
section
variable  {X:Cx}{a b c:Expr}{ta tb tc:TE}{pos:Pos}
theorem aR {pins:List (Addr×Obj)}{σ:St}{H:Hp}{s:A1}{Q:VK}{k k':Bool}(I:Inv X pins σ H s)(q:Q (.bl k) H)(e:k=k'):EP X pins σ Q (.bool k') s:=by
 subst e
 exact ⟨.bl k,H,I,rfl,q⟩
theorem cy:OpR X (CP .Eq) rEq:=by
 intro pins s σ H x y v u Q I rx ry h
 obtain ⟨hs,q⟩:=h
 cases x with
 | non =>
  cases rx
  cases y with
  | non=>cases ry;exact PySem.EqNone.eq_none_none (aR I q (by simp))
  | bl j=>cases ry;exact PySem.EqNone.eq_none_bool (aR I q (by simp))
  | int j=>obtain ⟨t',rfl⟩:=ry;exact PySem.EqNone.eq_none_int (aR I q (by simp))
  | str j=>obtain ⟨t',rfl⟩:=ry;exact PySem.EqNone.eq_none_str (aR I q (by simp))
  | _=>exact absurd (show false=true from hs) Bf
 | bl i =>
  cases rx
  cases y with
  | non=>cases ry;exact PySem.EqNone.eq_bool_none (aR I q (by simp))
  | bl j=>cases ry;exact eq_bool (aR I q vy)
  | str j=>obtain ⟨t',rfl⟩:=ry;exact IP (aR I q (by simp))
  | _=>exact absurd (show false=true from hs) Bf
 | int i =>
  obtain ⟨t,rfl⟩:=rx
  cases y with
  | non=>cases ry;exact PySem.EqNone.eq_int_none (aR I q (by simp))
  | int j=>obtain ⟨t',rfl⟩:=ry;exact eq_int (aR I q rN)
  | str j=>obtain ⟨t',rfl⟩:=ry;exact IX (aR I q (by simp))
  | _=>exact absurd (show false=true from hs) Bf
 | str i =>
  obtain ⟨t,rfl⟩:=rx
  cases y with
  | non=>cases ry;exact PySem.EqNone.eq_str_none (aR I q (by simp))
  | bl j=>cases ry;exact IQ (aR I q (by simp))
  | int j=>obtain ⟨t',rfl⟩:=ry;exact IY (aR I q (by simp))
  | str j=>obtain ⟨t',rfl⟩:=ry;exact eq_str (aR I q rO)
  | _=>exact absurd (show false=true from hs) Bf
 | byt i =>
  obtain ⟨t,rfl⟩:=rx
  cases y with
  | byt j=>obtain ⟨t',rfl⟩:=ry;exact PySem.W.eq_bytes (aR I q rQ)
  | _=>exact absurd (show false=true from hs) Bf
 | _=>cases y <;> exact absurd (show false=true from hs) Bf
theorem mK:OpR X (CP .NotEq) rNe:=by
 intro pins s σ H x y v u Q I rx ry h
 obtain ⟨hs,q⟩:=h
 cases x with
 | non =>
  cases rx
  cases y with
  | non=>cases ry;exact PySem.EqNone.ne_none_none (aR I q (by simp))
  | bl j=>cases ry;exact PySem.EqNone.ne_none_bool (aR I q (by simp))
  | int j=>obtain ⟨t',rfl⟩:=ry;exact PySem.EqNone.ne_none_int (aR I q (by simp))
  | str j=>obtain ⟨t',rfl⟩:=ry;exact PySem.EqNone.ne_none_str (aR I q (by simp))
  | _=>exact absurd (show false=true from hs) Bf
 | bl i =>
  cases rx
  cases y with
  | non=>cases ry;exact PySem.EqNone.ne_bool_none (aR I q (by simp))
  | bl j=>cases ry;exact ne_bool (aR I q (congrArg not vy))
  | str j=>obtain ⟨t',rfl⟩:=ry;exact IS (aR I q (by simp))
  | _=>exact absurd (show false=true from hs) Bf
 | int i =>
  obtain ⟨t,rfl⟩:=rx
  cases y with
  | non=>cases ry;exact PySem.EqNone.ne_int_none (aR I q (by simp))
  | int j=>obtain ⟨t',rfl⟩:=ry;exact ne_int (aR I q (congrArg not rN))
  | str j=>obtain ⟨t',rfl⟩:=ry;exact IZ (aR I q (by simp))
  | _=>exact absurd (show false=true from hs) Bf
 | str i =>
  obtain ⟨t,rfl⟩:=rx
  cases y with
  | non=>cases ry;exact PySem.EqNone.ne_str_none (aR I q (by simp))
  | bl j=>cases ry;exact IT (aR I q (by simp))
  | int j=>obtain ⟨t',rfl⟩:=ry;exact I0 (aR I q (by simp))
  | str j=>obtain ⟨t',rfl⟩:=ry;exact ne_str (aR I q (congrArg not rO))
  | _=>exact absurd (show false=true from hs) Bf
 | byt i =>
  obtain ⟨t,rfl⟩:=rx
  cases y with
  | byt j=>obtain ⟨t',rfl⟩:=ry;exact PySem.W.ne_bytes (aR I q (congrArg not rQ))
  | _=>exact absurd (show false=true from hs) Bf
 | _=>cases y <;> exact absurd (show false=true from hs) Bf
theorem kE:OpR X (CP .Lt) (rI0 λi j =>.bl (decide (i<j))):=zi λ_ _ _ _ _ _ _ q=>lt_int q
theorem Ag:OpR X (CP .Gt) (rI0 λi j =>.bl (decide (j<i))):=zi λ_ _ _ _ _ _ _ q=>gt_int q
theorem Ah:OpR X (CP .GtE) (rI0 λi j =>.bl (decide (j<=i))):=zi λ_ _ _ _ _ _ _ q=>ge_int q
theorem nT:OpR X (CP .Is) (λx y H Q=>y = .non/\Q (.bl (decide (x = .non))) H):=by
 intro pins s σ H x y v u Q I rx ry h
 obtain ⟨rfl,q⟩:=h
 cases ry
 refine is_none_gen (aR I q ?_)
 cases x <;> first
  | (cases rx;rfl)
  | (obtain ⟨t,rfl⟩:=rx;rfl)
theorem nU:OpR X (CP .IsNot) (λx y H Q=>y = .non/\Q (.bl (!decide (x = .non))) H):=by
 intro pins s σ H x y v u Q I rx ry h
 obtain ⟨rfl,q⟩:=h
 cases ry
 refine isnot_none_gen (aR I q ?_)
 cases x <;> first
  | (cases rx;rfl)
  | (obtain ⟨t,rfl⟩:=rx;rfl)
theorem aE (b:Expr){op:CmpOp}(h:op ≠ .In:=by decide)(h2:op ≠ .NotIn:=by decide):behindInMarks op b=false:=by
 have e1:(op == CmpOp.In)=false:=by cases op <;> first | rfl | exact absurd rfl h
 have e2:(op == CmpOp.NotIn)=false:=by cases op <;> first | rfl | exact absurd rfl h2
 cases b <;> simp[behindInMarks,e1,e2]
theorem cu {op:CmpOp}{r:R2}(ho:OpR X (CP op) r)(ha:PE X a ta)(hb:PE X b tb)(hm:behindInMarks op b=false):PE X (.Compare a [op] [b] pos) (tOp r ta tb):=by
 intro pins s σ H Q I h
 exact wpAny_Compare1 (zh ha hb I h λv u s2 x y H2 I2 rx ry q=>ho pins s2 σ H2 x y v u Q I2 rx ry q) hm
def Ai (t:TE):TT:=λσ H Q=>t σ H λx H'=>∃k,x = .bl k/\Q k H'
theorem av {op:CmpOp}{r:R2}(ho:OpR X (CP op) r)(ha:PE X a ta)(hb:PE X b tb)(hm:behindInMarks op b=false):PT X (.Compare a [op] [b] pos) (Ai (tOp r ta tb)):=by
 intro pins s σ H Q I h
 refine GX (thn (ha pins s σ H _ I h) λv s1 ⟨x,H1,I1,r1,q1⟩=>thn (hb pins s1 σ H1 _ I1 q1) λu s2 ⟨y,H2,I2,r2,q2⟩ =>
  thn (ho pins s2 σ H2 x y v u _ I2 r1 r2 q2) λc s3 ⟨z,H3,I3,r3,k,e,q3⟩ =>?_) hm
 subst e
 cases r3
 exact C3 ⟨H3,I3,q3⟩
def Aj (K:A0)(x:V)(H:Hp)(k:Bool):Prop :=
 match x with
 | .non=>k=false
 | .bl b=>k=b
 | .int i=>k=(i != 0)
 | .str y=>y.length<=Ba/\k=((y.length:Int) != 0)
 | .byt y=>y.size<=Ba/\k=((y.size:Int) != 0)
 | .ref p=>(∃xs,SqL K H p xs/\k = !xs.isEmpty)\/(∃xs,SqT K H p xs/\k = !xs.isEmpty)\/∃kvs,H p=some (.dK kvs)/\k = !kvs.isEmpty
 | _=>False
theorem qr {κ:Type}{kvs:List (κ×V)}{vs:List (κ×AS)}(r:KV kvs vs):(!vs.isEmpty) = !kvs.isEmpty:=by
 cases r <;> rfl
theorem kF {xs:List V}{its:List AS}(r:Vals xs its):(!its.toArray.isEmpty) = !xs.isEmpty:=by
 cases r <;> simp
theorem jl:(Ba:Nat)<2 ^ 63:=by rw[EB];decide
theorem zk:TruR X (λx H Q=>∃k,Aj X.K x H k/\Q k H):=by
 intro pins s σ H x v Q I rx h
 obtain ⟨k,e,q⟩:=h
 have hl:=jl
 have hs:Ba=16777216:=EB
 cases x with
 | non =>
  cases rx
  have e':k=false:=e
  subst e'
  exact truthy_none ⟨H,I,q⟩
 | bl b =>
  cases rx
  have e':k=b:=e
  subst e'
  exact C3 ⟨H,I,q⟩
 | int i =>
  obtain ⟨t,rfl⟩:=rx
  have e':k=(i != 0):=e
  subst e'
  exact PySem.P.truthy_int ⟨H,I,q⟩
 | str y =>
  obtain ⟨t,rfl⟩:=rx
  obtain ⟨hy,e'⟩:y.length<=Ba/\k=((y.length:Int) != 0):=e
  subst e'
  exact PySem.P.truthy_str (by lia) ⟨H,I.tok _,q⟩
 | byt y =>
  obtain ⟨t,rfl⟩:=rx
  obtain ⟨hy,e'⟩:y.size<=Ba/\k=((y.size:Int) != 0):=e
  subst e'
  exact PySem.W.truthy_bytes (by lia) ⟨H,I.tok _,q⟩
 | ref p =>
  cases rx
  have e':(∃xs,SqL X.K H p xs/\k = !xs.isEmpty)\/(∃xs,SqT X.K H p xs/\k = !xs.isEmpty)\/∃kvs,H p=some (.dK kvs)/\k = !kvs.isEmpty:=e
  rcases e' with ⟨xs,hx,e'⟩ | ⟨xs,hx,e'⟩ | ⟨kvs,hx,e'⟩
  ·subst e'
   obtain ⟨its,r,pl,hz⟩:=I.list hx
   have hlen:=r.length
   exact wpAny_truthy_list pl.isList (by simp only[AX];lia) ⟨H,I.tok _,by rw[kF r];exact q⟩
  ·subst e'
   obtain ⟨its,r,pl,hz⟩:=I.tuple hx
   have hlen:=r.length
   exact truthy_tuple pl (by simp only[AX];lia) ⟨H,I.tok _,by rw[kF r];exact q⟩
  ·subst e'
   obtain ⟨hz,hS,vs,r,m⟩:kvs.length<=Ba/\(p == sysModules)=false/\∃vs,KV kvs vs/\s.heap.DictOf (bD X.prog X.w) p vs:=I.hok p _ hx
   have hlen:kvs.length=vs.length:=D7 r
   exact wpAny_truthy_dict hS m (by lia) ⟨H,I.tok _,by rw[qr r];exact q⟩
 | _=>exact (show False from e).elim
theorem kG (ha:PE X a ta)(he:∀whole,isTrue a X.env whole=(do let v ← whole;standAt a.pos;Fg [v] (truthy v))) :
    PT X a (λσ H Q=>ta σ H λx H'=>∃k,Aj X.K x H' k/\Q k H'):=by
  intro pins s σ H Q I h
  exact isTrue_plain (thn (ha pins s σ H _ I h) λv s1 ⟨x,H1,I1,r1,q1⟩=>zk pins s1 σ H1 x v Q I1 r1 q1) (he _)
theorem vals1 {x:V}{us:List AS}(r:Vals [x] us):∃u,us=[u]/\RelV x u:=by
 cases r with
 | cons r1 r2=>cases r2;exact ⟨_,rfl,r1⟩
theorem vals2 {x y:V}{us:List AS}(r:Vals [x,y] us):∃u w',us=[u,w']/\RelV x u/\RelV y w':=by
 cases r with
 | cons r1 r2 =>
  cases r2 with
  | cons r3 r4=>cases r4;exact ⟨_,_,rfl,r1,r3⟩
theorem tY (hc:X.calm=true):bK X (.builtin "max") (λxs H Q=>∃i j,xs=[.int i,.int j]/\Q (.int (if j>i then j else i)) H):=by
 intro pins s σ H xs us Q I r h
 obtain ⟨i,j,rfl,q⟩:=h
 obtain ⟨u,w',rfl,⟨t,rfl⟩,⟨t',rfl⟩⟩:=vals2 r
 refine max_two_ints (I.ok.hd hc) λh' tk k=>⟨_,H,I.kept k,?_,q⟩
 by_cases hj:j>i
 ·rw[if_pos hj,if_pos hj];exact ⟨_,rfl⟩
 ·rw[if_neg hj,if_neg hj];exact ⟨_,rfl⟩
theorem tZ (hc:X.calm=true):bK X (.builtin "min") (λxs H Q=>∃i j,xs=[.int i,.int j]/\Q (.int (if j<i then j else i)) H):=by
 intro pins s σ H xs us Q I r h
 obtain ⟨i,j,rfl,q⟩:=h
 obtain ⟨u,w',rfl,⟨t,rfl⟩,⟨t',rfl⟩⟩:=vals2 r
 refine min_two_ints (I.ok.hd hc) λh' tk k=>⟨_,H,I.kept k,?_,q⟩
 by_cases hj:j<i
 ·rw[if_pos hj,if_pos hj];exact ⟨_,rfl⟩
 ·rw[if_neg hj,if_neg hj];exact ⟨_,rfl⟩
theorem t4:bK X (.type "int") (λxs H Q=>(∃i,xs=[.int i]/\Q (.int i) H)\/∃k,xs=[.bl k]/\Q (.int (if k then 1 else 0)) H):=by
 intro pins s σ H xs us Q I r h
 rcases h with ⟨i,rfl,q⟩ | ⟨k,rfl,q⟩
 ·obtain ⟨u,rfl,t,rfl⟩:=vals1 r
  exact call_int_int ⟨.int i,H,I,⟨_,rfl⟩,q⟩
 ·obtain ⟨u,rfl,r1⟩:=vals1 r
  cases r1
  exact call_int_bool ⟨.int (if k then 1 else 0),H,I.tok _,⟨_,rfl⟩,q⟩
end
open PySem PySem.Spec PyProof.Rows
structure zo (h:Heap)(x dx C:Addr)(mA:Str->Option AS):Prop where
 obj:h.get? x=some (PySem.W.instObj C dx)
 ns:h.Ns1 dx mA
 ne:dx≠x
theorem t5 {h:Heap}{dx:Addr}{mA:Str->Option AS}(n:h.Ns1 dx mA):∃od,h.get? dx=some od/\∀name,PySem.W.lookIn name od=some (mA name):=by
 obtain ⟨o,es,ep,ho,hd,hk,_,hm⟩:=n
 refine ⟨o,ho,λname =>?_⟩
 have e:=hm name
 unfold nsFind findBy at e
 rw[<- Array.find?_toList] at e
 unfold PySem.W.lookIn
 rw[hd]
 dsimp only
 split
 ·rename_i y q
  rw[q] at e
  exact congrArg some e
 ·rename_i q
  rw[q] at e
  have a:es.toList.any (·.refKey)=false:=by
   rw[List.any_eq_false]
   intro y hy
   obtain ⟨z,t,hkey⟩:=hk y (BM.mp hy)
   simp[DictEntry.refKey,hkey]
  have a':¬ es.toList.any (·.refKey)=true:=by rw[a];exact Bf
  rw[if_neg a']
  exact congrArg some e
theorem zo.look {h:Heap}{x dx C:Addr}{mA:Str->Option AS}(I:zo h x dx C mA):∃od,PySem.W.InstAt h x (PySem.W.instObj C dx) C (some od)/\∀name,PySem.W.lookIn name od=some (mA name) :=
 let ⟨od,ho,hl⟩:=t5 I.ns
 ⟨od,⟨I.obj,rfl,rfl,ho⟩,hl⟩
section
variable  {prog:Bi}{w:BQ}{A:Cc}{E:AS->A1->Prop}{s:A1}{K:A0}{x dx C f:Addr}{mA:Str->Option AS}{name:Str}{v:AS}
end
theorem kz.some_of {v:V}{o:Option AS}(r:kz (some v) o):∃u,o=some u/\RelV v u:=by
 cases o with
 | none=>exact (show False from r).elim
 | some u=>exact ⟨u,rfl,r⟩
section
variable  {P:Bi}{w:BQ}{H H':Hp}{h h':Heap}{a C dx:Addr}{fs fs':List (Str×V)}
theorem xg (hok:HOk P w H h)(e:H a=some (.ins C dx fs)):∃mA,zo h a dx C mA/\(∀f,kz (fs.lookup f) (mA f))/\PySem.Within mA (fs.map (·.1))/\fs.length<=1000/\H dx=some (.own a):=by
 obtain ⟨d,z,ne,ob,mA,n,r,q⟩:=(show aZ P w H h a (.ins C dx fs) from hok a _ e)
 exact ⟨mA,⟨ob,n,ne⟩,r,q,z,d⟩
end
structure Cls (K:A0)(C:Addr):Prop where
 pg:PySem.W.plainGet K C Str.empty=true
 hd:PySem.W.hasDictIn K C=true
 po:PySem.W.plainOver K C=true
 sa:PySem.W.findIn K (.ref C) "__setattr__" = some (some (.builtin "object.__setattr__"))
theorem Cls.get {K:A0}{C:Addr}(c:Cls K C)(f:Str):PySem.W.plainGet K C f=true:=c.pg
section
variable  {X:Cx}{pins:List (Addr×Obj)}{σ:St}{H:Hp}{s:A1}{a C dx:Addr}{fs:List (Str×V)}{f:Str}{v:V}{A:Cc}{E:AS->A1->Prop}
end
section
variable  {X:Cx}{o e value:Expr}{f:Str}{pos pos' tpos:Pos}{ta tv:TE}
end
section
variable  {X:Cx}{pins:List (Addr×Obj)}{σ:St}{H:Hp}{s:A1}{A:Cc}{E:AS->A1->Prop}{Q:AS->A1->Prop}{c:AS}{b:Bool}
inductive jm (K:A0)(H:Hp):V->AS->Prop where
 | non:jm K H .non (.type "NoneType")
 | bl (x:Bool):jm K H (.bl x) (.type "bool")
 | int (i:Int):jm K H (.int i) (.type "int")
 | str (x:Str):jm K H (.str x) (.type "str")
 | flt (x:UInt64):jm K H (.flt x) (.type "float")
 | lst {a:Addr} {xs:List V} (e:H a=some (.lst xs)):jm K H (.ref a) (.type "list")
 | frz {a:Addr} {o:Obj} {xs:List V} (e:H a=some (.frz o (.lst xs))):jm K H (.ref a) (.type "list")
 | tup {a:Addr} {xs:List V} (e:H a=some (.tup xs)):jm K H (.ref a) (.type "tuple")
 | dK {a:Addr} {kvs:List (Key×V)} (e:H a=some (.dK kvs)):jm K H (.ref a) (.type "dict")
 | dT {a:Addr} {kvs:List (List Key×V)} (e:H a=some (.dT kvs)):jm K H (.ref a) (.type "dict")
 | ins {a C dx:Addr} {fs:List (Str×V)} (e:H a=some (.ins C dx fs)) (cl:Cls K C) (ha:PySem.W.findIn K (.ref C) "__class__" = some (some (.builtin "object.__class__")))
   (hn:PySem.W.specialIn K (.builtin "object.__class__") "__get__" = some (some (.builtin "getset_descriptor.__get__"))) (htk:PySem.W.takesIn K (.builtin "object.__class__")=some true)
   (hm:PySem.W.mroIn K C (.type "object")=some true):jm K H (.ref a) (.ref C)
theorem t6 {x:V}{u t:AS}(I:Inv X pins σ H s)(rx:RelV x u)(ty:jm X.K H x t)(e:PySem.W.kitOne X.K t c=some b)(h:∀tk,Q (.bool b) { s with toks:=tk }) :
  Bv (BJ X.prog X.w) A (call (.builtin "isinstance") [u,c]) Q E s:=by
 cases ty with
 | non=>cases (show u=DM from rx);exact CU PySem.W.kitx_none I.kIn True.intro e (λz=>nomatch z) h
 | bl y=>cases (show u=Value.bool y from rx);exact CU PySem.W.kitx_bool I.kIn True.intro e (λz=>nomatch z) h
 | int i=>obtain ⟨t,q⟩:=(show ∃t,u=CQ i t from rx);cases q;exact CU PySem.W.kitx_int I.kIn True.intro e (λz=>nomatch z) h
 | str y=>obtain ⟨t,q⟩:=(show ∃t,u=Value.str y t from rx);cases q;exact CU PySem.W.kitx_str I.kIn True.intro e (λz=>nomatch z) h
 | flt y=>obtain ⟨t,q⟩:=(show ∃t,u=Value.float y t from rx);cases q;exact CU PySem.W.kitx_float I.kIn True.intro e (λz=>nomatch z) h
 | @lst a xs ea =>
  cases (show u=Bl a from rx)
  obtain ⟨_,_,n,_,h1⟩:=(show aZ X.prog X.w H s.heap a (.lst xs) from I.hok a _ ea)
  exact CU HQ I.kIn ⟨_,h1,rfl⟩ e (λz=>nomatch z) h
 | @frz a ob xs ea =>
  cases (show u=Bl a from rx)
  obtain ⟨_,_,_,n,_,h1⟩:=(show aZ X.prog X.w H s.heap a (.frz ob (.lst xs)) from I.hok a _ ea)
  exact CU HQ I.kIn ⟨_,h1,rfl⟩ e (λz=>nomatch z) h
 | @tup a xs ea =>
  cases (show u=Bl a from rx)
  obtain ⟨_,_,_,p⟩:=(show aZ X.prog X.w H s.heap a (.tup xs) from I.hok a _ ea)
  obtain ⟨o,h1,h2,_⟩:=p
  exact CU PySem.W.kitx_tuple I.kIn ⟨o,h1,h2.1⟩ e (λz=>nomatch z) h
 | @dK a kvs ea =>
  cases (show u=Bl a from rx)
  obtain ⟨_,_,vs,_,p⟩:=(show aZ X.prog X.w H s.heap a (.dK kvs) from I.hok a _ ea)
  obtain ⟨o,es,ep,h1,h2,_⟩:=p
  exact CU HR I.kIn ⟨o,h1,h2.1⟩ e (λz=>nomatch z) h
 | @dT a kvs ea =>
  cases (show u=Bl a from rx)
  obtain ⟨_,_,xs,_,o,es,ep,h1,h2,_⟩:=(show aZ X.prog X.w H s.heap a (.dT kvs) from I.hok a _ ea)
  exact CU HR I.kIn ⟨o,h1,h2.1⟩ e (λz=>nomatch z) h
 | @ins a C dx fs ea cl ha hn htk hm =>
  cases (show u=Bl a from rx)
  obtain ⟨mA,O,_⟩:=xg I.hok ea
  obtain ⟨od,J,_⟩:=O.look
  exact CU (PySem.W.kitx_own (cl.get _) cl.hd ha hn htk hm) I.kIn J e (λz=>nomatch z) h
end
open PySem PySem.Spec PyProof.Rows
structure cM (k:Nat)(A:Cc):Prop where
 hd:A.handled=none
 dp:A.depth+3*k+5<recursionLimit
 un:A.units+16*k+200<cLine
theorem cM.mono {j k:Nat}{A:Cc}(r:cM k A)(h:j<=k):cM j A:=⟨r.hd,by have:=r.dp;lia,by have:=r.un;lia⟩
theorem cM.deeper {k:Nat}{A:Cc}(r:cM (k+1) A)(env:Env):cM k (A.deeper env) :=
 ⟨r.hd,by have:=r.dp;show A.depth+1+3*k+5<_;lia,by have:=r.un;show A.units+3+16*k+200<_;lia⟩
theorem cM.depth {k:Nat}{A:Cc}(r:cM k A):A.depth<recursionLimit:=by have:=r.dp;lia
theorem cM.units {k:Nat}{A:Cc}(r:cM k A):A.units+64<cLine:=by have:=r.un;lia
def tNil:TA:=λ_ H Q=>Q [] H
def Ak (ta:TE)(tr:TA):TA:=λσ H Q=>ta σ H λx H1=>tr σ H1 λxs H2=>Q (x :: xs) H2
section
variable  {X:Cx}{e:Expr}{es:List Expr}{te:TE}{t:TA}{pos:Pos}
theorem ab:PA X [] tNil:=λ_ _ _ _ H Q I h=>Calls.spliced_nil ⟨[],H,I,.nil,h⟩
theorem aa (ha:PE X e te)(hr:PA X es t)(hs:Cm (e :: es) X.env=(false,eval e X.env) :: Cm es X.env:=by rfl):PA X (e :: es) (Ak te t):=by
 intro pos pins s σ H Q I h
 rw[hs]
 show Bv _ _ (spliced ((false,eval e X.env) :: E4 pos (Cm es X.env))) _ _ s
 refine Calls.spliced_cons (thn (ha pins s σ H _ I h) λu s1 ⟨x,H1,I1,r1,q1⟩ =>?_)
 exact thn (hr pos pins s1 σ H1 _ I1 q1) λus s2 ⟨xs,H2,I2,r2,q2⟩=>⟨x :: xs,H2,I2,.cons r1 r2,q2⟩
def tTup (t:TA):TE:=λσ H Q=>t σ H λxs H1=>xs.length<=Ba/\∀p,H1 p=none->Q (.ref p) (upd H1 p (.tup xs))
def tLst (t:TA):TE:=λσ H Q=>t σ H λxs H1=>xs.length<=Ba/\∀p,H1 p=none->Q (.ref p) (upd H1 p (.lst xs))
theorem a9 {x1}(h:PA X es t):PE X (.Tuple es x1 pos) (tTup t):=by
 intro pins s σ H Q I hq
 refine wpAny_Tuple_spliced (thn (h pos pins s σ H _ I hq) λus s1 ⟨xs,H1,I1,r,z,q⟩=>⟨by rw[<- r.length];exact z,?_⟩)
 have hf:H1 s1.heap.objs.size=none:=I1.hok.fresh (AY _)
 refine ⟨.ref s1.heap.objs.size,upd H1 s1.heap.objs.size (.tup xs),I1.laid (t':=s1.toks) (λb u e=>AU _ e) (AY _) ?_,rfl,q _ hf⟩
 exact ⟨z,us,r,⟨_,Bd _ rfl,⟨rfl,rfl⟩,_,rfl⟩⟩
theorem bO (h:PA X es t):PE X (.List es pos) (tLst t):=by
 intro pins s σ H Q I hq
 refine wpAny_List_spliced (thn (h pos pins s σ H _ I hq) λus s1 ⟨xs,H1,I1,r,z,q⟩=>⟨by rw[<- r.length];exact z,?_⟩)
 have hf:H1 s1.heap.objs.size=none:=I1.hok.fresh (AY _)
 refine ⟨.ref s1.heap.objs.size,upd H1 s1.heap.objs.size (.lst xs),I1.laid (t':=s1.toks) (λb u e=>AU _ e) (AY _) ?_,rfl,q _ hf⟩
 exact ⟨z,us,0,r,Bd _ rfl⟩
end
abbrev Sp:=List V->Hp->VK->XK->Prop
abbrev CXT:=List Env->Hp->A1->XK->AS->A1->Prop
structure xh (P:Bi)(w:BQ)(K:A0)(mg:Str->Option AS)(base:Heap)(A:Cc)(outer:List Env)(s:A1)(H:Hp):Prop where
 frames:A.frames=some outer
 mod:Mod K mg base
 bs:∀b o,base.get? b=some o->s.heap.get? b=some o/\H b=none
 bsz:base.objs.size<=s.heap.objs.size
 funs:s.heap.FunFrames base outer
 frf:∀b∈frs outer,H b=none
 hok:HOk P w H s.heap
 bare:AllBare s.gens
def CE (outer:List Env)(P:Bi)(w:BQ)(H:Hp)(s:A1)(Q:VK)(u:AS)(s':A1):Prop :=
 ∃v H',s'.os=s.os/\AllBare s'.gens/\Un (frs outer) [] H H' s.heap s'.heap/\HOk P w H' s'.heap/\RelV v u/\Q v H'
def CR (CX:CXT)(outer:List Env)(P:Bi)(w:BQ)(H:Hp)(s:A1)(Q:VK)(E:XK)(r:Result)(s':A1):Prop :=
 match r with
 | .ok (.ret u)=>CE outer P w H s Q u s'
 | .ok _=>False
 | .error e=>CX outer H s E e s'
structure bB (P:Bi)(w:BQ)(K:A0)(mg:Str->Option AS)(base:Heap)(CX:CXT)(k:Nat)(f:Addr)(fd:Cd)(ps:List Str)(sp:Sp):Prop where
 len:∀vs H Q E,sp vs H Q E->vs.length=ps.length
 run:∀(A:Cc) (outer:List Env) (s:A1) (H:Hp) (args:Args) (us:List AS) (vs:List V) (Q:VK) (E:XK),cM k A->xh P w K mg base A outer s H->BindsTo s fd args (ps.zip us)->Vals vs us->sp vs H Q E →
  Ff (BJ P w) A (.call (.ref f) args) (CR CX outer P w H s Q E) s
section
variable  {X:Cx}{pins:List (Addr×Obj)}{σ:St}{H:Hp}{s s':A1}
theorem Inv.env0 (I:Inv X pins σ H s):xh X.prog X.w X.K X.mg X.base X.A X.stack s H :=
 ⟨I.ok.frames,I.ok.mod,I.bs,BL I.ok.bsz I.sz,I.stack,I.rL,I.hok,I.bare⟩
theorem Inv.after {Q:VK}{u:AS}(I:Inv X pins σ H s)(h:CE X.stack X.prog X.w H s Q u s'):EP X pins σ Q u s':=by
 obtain ⟨v,H',os,bare,un,hok,r,q⟩:=h
 obtain ⟨hh,g,d,t,os'⟩:=s'
 obtain rfl:os'=s.os:=os
 exact ⟨v,H',I.call (h':=hh) (g':=g) (d':=d) (t':=t) (ch:=[]) un hok bare (λb z=>absurd z (by simp)),r,q⟩
end
def yz (sp:Sp)(dvs:List V)(E:XK)(t:TA):TE:=λσ H Q=>t σ H λvs H1=>sp (vs++dvs) H1 Q E
def Binds (K:A0)(fd:Cd)(ps:List Str)(ds:List AS):Prop :=
 ∀(s:A1) (us:List AS),K.In s.heap->(us++ds).length=ps.length->BindsTo s fd ⟨us,[]⟩ (ps.zip (us++ds))
theorem Binds.all {K:A0}{fd:Cd}{ps:List Str}(h:∀us:List AS,us.length=ps.length->bindArgs fd ⟨us,[]⟩=pure (ps.zip us)):Binds K fd ps []:=λs us _ hl=>by
 rw[B7] at hl ⊢
 exact .of_eq (h us hl)
def Passes (CX:CXT)(X:Cx)(E:XK):Prop:=∀(pins:List (Addr×Obj)) (σ:St) (H:Hp) (s:A1) (e:AS) (s':A1),Inv X pins σ H s->CX X.stack H s E e s'->X.xe e s'
section
variable  {X:Cx}{CX:CXT}{k:Nat}{f C:Addr}{fd:Cd}{ps:List Str}{sp:Sp}{dvs:List V}{ds:List AS}{E:XK}{x m:Str}{p pos apos:Pos}{e o:Expr}{es:List Expr}{ta:TE}{t:TA}
theorem zp {pins:List (Addr×Obj)}{σ:St}{H:Hp}{s:A1}{Q:VK}{us:List AS}{vs:List V}(F:bB X.prog X.w X.K X.mg X.base CX k f fd ps sp)(hr:cM k X.A)(hb:Binds X.K fd ps ds)(hd:Vals dvs ds)(hx:Passes CX X E)
  (I:Inv X pins σ H s) (r:Vals vs us) (h:sp (vs++dvs) H Q E):Bv (BJ X.prog X.w) X.A (call (.ref f) us) (EP X pins σ Q) X.xe s:=by
 have r2:Vals (vs++dvs) (us++ds):=r.append hd
 have hl:(us++ds).length=ps.length:=by rw[<- r2.length];exact F.len _ _ _ _ h
 refine Ia (EH (F.run X.A X.stack s H ⟨us,[]⟩ (us++ds) (vs++dvs) Q E hr I.env0 (hb s us I.kIn hl) r2 h) λr s' hq =>?_)
 cases r with
 | error e=>exact hx pins σ H s e s' I hq
 | ok fl =>
  cases fl with
  | ret u=>exact I.after hq
  | next=>exact False.elim hq
  | brk=>exact False.elim hq
  | cont=>exact False.elim hq
theorem xk (F:bB X.prog X.w X.K X.mg X.base CX k f fd ps sp)(hr:cM k X.A)(hg:Gl X x)(hm:X.mg x=some (.ref f))(hk:PySem.W.keepIn X.K (.ref f)=true)(hb:Binds X.K fd ps ds)(hd:Vals dvs ds)(hx:Passes CX X E)
  (ha:PA X (e :: es) t) (hdb:(x == ("__debug__" : Str))=false:=by decide) (he:Cm (e :: es) X.env=(false,eval e X.env) :: Cm es X.env:=by rfl) (hpl:(E4 pos (Cm es X.env)).any (·.1)=false:=by rfl) :
  PE X (.Call (.Name x p) (e :: es) [] pos) (yz sp dvs E t):=by
 intro pins s σ H Q I h
 refine EZ (w6 I hg hm ?_ hdb)
 refine PySem.W.callWith_K (h₀:=X.base) I.ok.mod.kin hk (thn (ha pos pins s σ H _ I h) λus s1 ⟨vs,H1,I1,r,q⟩=>⟨I1.kIn,?_⟩) he hpl
 exact zp F hr hb hd hx I1 r q
end
section
variable  {X:Cx}{CX:CXT}{k:Nat}{f C:Addr}{fd:Cd}{ps ks:List Str}{sp:Sp}{E:XK}{x m:Str}{p pos apos kpos:Pos}{e o:Expr}{es:List Expr}{kws:List Keyword}{te ta:TE}{t tk:TA}{nm:Option Str}
variable  {g:List AS->List AS->List AS}{gV:List V->List V->List V}
end
structure aH (N P:List Str)(sc:Scope):Prop where
 kind:sc.kind = .function
 co:sc.isCoroutine=false
 gen:sc.isGenerator=false
 nd:N.Nodup
 pre:N.take P.length=P
 par:∀x∈P,sc.names.lookup x=some .local\/sc.names.lookup x=some .cell
 nofree:∀y∈sc.names,y.2 ≠ .free
theorem mL {kindOf:Str->Option NameKind}{x:Str}:∀{binds:List (Str×AS)} {m:Str->Option AS},(∀v,(x,v)∉binds)->bindL kindOf binds m x=m x
 | [],_,_=>rfl
 | (n,v) :: r,m,h=>by
  unfold bindL
  rw[mL λw hw=>h w (Br _ hw)]
  split
  ·have:x≠n:=by rintro rfl;exact h v Be
   simp[this]
  ·rfl
theorem mN {kindOf:Str->Option NameKind}{x:Str}:∀{binds:List (Str×AS)} {m:Str->Option AS},(∀v,(x,v)∉binds)->bindC kindOf binds m x=m x
 | [],_,_=>rfl
 | (n,v) :: r,m,h=>by
  unfold bindC
  rw[mN λw hw=>h w (Br _ hw)]
  split
  ·rfl
  ·have:x≠n:=by rintro rfl;exact h v Be
   simp[this]
theorem mO {kindOf:Str->Option NameKind}{x:Str}{v:AS}:∀{P:List Str} {vs:List AS} {i:Nat} {m:Str->Option AS},P.Nodup->P[i]? = some x->vs[i]? = some v->kindOf x=some .local →
  bindL kindOf (P.zip vs) m x=some v
 | [],_,_,_,_,h,_,_=>by simp at h
 | _ :: _,[],_,_,_,_,h,_=>by simp at h
 | p :: P,w :: vs,0,m,nd,h1,h2,hk=>by
  simp at h1 h2;subst h1;subst h2
  show bindL kindOf ((p,w) :: P.zip vs) m p=_
  unfold bindL
  rw[mL λv hv=>(Cq.mp nd).1 (GF hv).1,if_pos hk]
  simp
 | p :: P,w :: vs,i+1,m,nd,h1,h2,hk=>by
  show bindL kindOf ((p,w) :: P.zip vs) m x=_
  unfold bindL
  exact mO (i:=i) (Cq.mp nd).2 (by simpa using h1) (by simpa using h2) hk
theorem mQ {kindOf:Str->Option NameKind}{x:Str}{v:AS}:∀{P:List Str} {vs:List AS} {i:Nat} {m:Str->Option AS},P.Nodup->P[i]? = some x->vs[i]? = some v->kindOf x≠some .local →
  bindC kindOf (P.zip vs) m x=some v
 | [],_,_,_,_,h,_,_=>by simp at h
 | _ :: _,[],_,_,_,_,h,_=>by simp at h
 | p :: P,w :: vs,0,m,nd,h1,h2,hk=>by
  simp at h1 h2;subst h1;subst h2
  show bindC kindOf ((p,w) :: P.zip vs) m p=_
  unfold bindC
  rw[mN λv hv=>(Cq.mp nd).1 (GF hv).1,if_neg hk]
  simp
 | p :: P,w :: vs,i+1,m,nd,h1,h2,hk=>by
  show bindC kindOf ((p,w) :: P.zip vs) m x=_
  unfold bindC
  exact mQ (i:=i) (Cq.mp nd).2 (by simpa using h1) (by simpa using h2) hk
def start (N:List Str)(vs:List V):St:=vs.map some++IW (N.length-vs.length) none
def nV (CX:CXT)(P:Bi)(w:BQ)(K:A0)(mg:Str->Option AS)(base:Heap)(N:List Str)(qual:Str)(scope:Scope)(f:Addr)(cd:AS)(A:Cc)(outer:List Env)(s:A1)(H:Hp)(E:XK):Cx where
 prog:=P
 w:=w
 K:=K
 mg:=mg
 base:=base
 A:=A.deeper (envOfC qual scope s.heap.objs.size f cd)
 N:=N
 s₀:=s
 H₀:=H
 env:=envOfC qual scope s.heap.objs.size f cd
 outer:=outer
 stack:=envOfC qual scope s.heap.objs.size f cd :: outer
 ex:=[]
 calm:=true
 fn:=λ_=>true
 pn:=[]
 xe:=λe s'=>Bv (BJ P w) (A.deeper (envOfC qual scope s.heap.objs.size f cd)) (leaving (envOfC qual scope s.heap.objs.size f cd) e) (λ_ s''=>CX outer H s E e s'') (λe' s''=>CX outer H s E e' s'') s'
theorem oZ {sc:Scope}{n:Nat}{x:Str}(h:sc.names.lookup x=some .cell):∃c,(cellsFrom n sc.names []).lookup x=some c:=by
 have q:=Gy sc.names n [] (.inl h)
 exact F3.mp q
theorem t7 {CX:CXT}{P:Bi}{w:BQ}{K:A0}{mg:Str->Option AS}{base:Heap}{N ps:List Str}{qual:Str}{scope:Scope}{f:Addr}{cd:AS}{A:Cc}{outer:List Env}{s s1:A1}{H:Hp}{E:XK}{us:List AS}{vs:List V}
  (S:aH N ps scope) (hd:A.handled=none) (e0:xh P w K mg base A outer s H) (hl:vs.length=ps.length) (r:Vals vs us)
  (x:InCallC s s.heap.objs.size (bindL (envOfC qual scope s.heap.objs.size f cd).kindOf (ps.zip us) λ_=>none) (cellsFrom (s.heap.objs.size+1) scope.names []) (bindC (envOfC qual scope s.heap.objs.size f cd).kindOf (ps.zip us) λ_=>none) s1) :
  Inv (nV CX P w K mg base N qual scope f cd A outer s H E) [] (start N vs) H s1:=by
 have hpl:ps.length<=N.length:=by have:=congrArg List.length S.pre;rw[B4] at this;lia
 obtain ⟨h1,tk,rfl,hk⟩:=x.done
 have noA:∀b:Addr,b∉(nV CX P w K mg base N qual scope f cd A outer s H E).ex:=λb z=>absurd (show b∈([]:List Addr) from z) (by simp)
 refine ⟨⟨e0.mod,S.kind,rfl,rfl,AY _,λy z c h1 h2 =>?_,λy hy =>?_,λy c _ h =>?_,λ_=>hd,Around.frames_deeper e0.frames,.inr ⟨rfl,rfl⟩,λb z=>absurd z (noA b),e0.bs,e0.bsz,λb _ _=>noA b,λb z=>absurd z (noA b),e0.funs,e0.frf⟩,
  rfl,e0.bare,Un.kept hk,⟨_,x.toInCall.ns,λi y v h1 h2 h3 =>?_⟩,λy c h=>⟨_,x.cell y c h⟩,e0.hok.fresh (AY _),λy c h =>?_,λp hp=>absurd (show p∈([]:List (Addr×Obj)) from hp) (by simp),e0.hok.kept hk,?_⟩
 ·exact name_of_addr x.apart (DI h1) (DI h2)
 ·have hy:scope.names.lookup y=some .cell\/scope.names.lookup y=some .free:=hy
  rcases hy with hy | hy
  ·exact oZ hy
  ·exact absurd rfl (S.nofree _ (DI hy))
 ·exact CK (x.above y c (DI h))
 ·have hi:i<vs.length:=by
   unfold start at h2
   by_cases hi:i<vs.length
   ·exact hi
   ·rw[BN (by simpa using hi)] at h2
    rw[EK] at h2
    split at h2 <;> cases h2
  have ha:vs[i]? = some v:=by
   unfold start at h2
   rw[BK (by simpa using hi),A4] at h2
   cases e:vs[i]? with
   | none=>rw[e] at h2;cases h2
   | some a=>rw[e] at h2;cases h2;rfl
  obtain ⟨u,hu,rv⟩:=r.get ha
  have hp:ps[i]? = some y:=by
   rw[<- S.pre,Ds (by lia)];exact h1
  have ndP:ps.Nodup:=by rw[<- S.pre];exact S.nd.sublist (CH _ _)
  refine ⟨u,rv,?_⟩
  rcases S.par y (A8 hp) with k | k
  ·exact .inl ⟨k,mO ndP hp hu k⟩
  ·obtain ⟨c,e⟩:=oZ (n:=s.heap.objs.size+1) k
   refine .inr ⟨.inl k,c,e,?_⟩
   have q:=x.cell y c e
   rw[mQ ndP hp hu (by show scope.names.lookup y≠_;rw[k];decide)] at q
   exact q
 ·exact e0.hok.fresh (CK (x.above y c (DI h)))
 ·unfold start
  show _=N.length
  rw[AR,AN,GG]
  lia
theorem Am {CX:CXT}{P:Bi}{w:BQ}{K:A0}{mg:Str->Option AS}{base:Heap}{k:Nat}{f:Addr}{name qual:Str}{params:Arguments}{body:List Stmt}{scope:Scope}{dV kV doc pm cdv ct oc:AS}{an od:Option Addr}
  {osl:Array (Option AS)} {N ps:List Str} {sp:Sp} (lk:K.lookup f=some ⟨oc,od,.func (PySem.W.fnOf name qual params body scope dV kV doc pm an cdv ct),osl⟩) (hcd:PySem.W.codeIn K cdv qual=true) (S:aH N ps scope)
  (len:∀vs H Q E,sp vs H Q E->vs.length=ps.length)
  (hbody:∀(A:Cc) (outer:List Env) (s:A1) (H:Hp) (vs:List V) (Q:VK) (E:XK),cM k (A.deeper (envOfC qual scope s.heap.objs.size f cdv))->sp vs H Q E →
   ∃t,PSs (nV CX P w K mg base N qual scope f cdv A outer s H E) body t/\t { nx:=λ_ H'=>Q .non H',rt:=Q } (start N vs) H) :
  bB P w K mg base CX (k+1) f (PySem.W.fnOf name qual params body scope dV kV doc pm an cdv ct) ps sp:=by
 refine ⟨len,λA outer s H args us vs Q E hr e0 hb r hsp =>?_⟩
 have hl:=len _ _ _ _ hsp
 have KX:K.In s.heap:=e0.mod.kin.keeps λb o e=>(e0.bs b o e).1
 have lim:s.heap.NoLimit:=e0.mod.nolimit.keeps λb o e=>(e0.bs b o e).1
 have hkind:∀y∈ps.zip us,scope.names.lookup y.1=some .local\/(scope.names.lookup y.1=some .cell/\((cellsFrom (s.heap.objs.size+1) scope.names []).lookup y.1).isSome=true):=λ⟨n,v⟩ hy=>by
  rcases S.par n (GF hy).1 with q | q
  ·exact .inl q
  ·exact .inr ⟨q,Gy _ _ _ (.inl q)⟩
 refine codeAny_call_function hr.depth (KX _ _ lk) rfl S.co S.gen rfl (PySem.W.codeRec_of KX hcd) (hb _ _ _ _ ?_)
 refine wpAny_newFunctionEnv_cells S.kind hkind λenv he s1 x =>?_
 subst he
 refine ⟨lim.keeps x.toInCall.keep,codeAny_func ?_⟩
 obtain ⟨t,ht,hq⟩:=hbody A outer s H vs Q E (hr.deeper _) hsp
 have I:Inv (nV CX P w K mg base N qual scope f cdv A outer s H E) [] (start N vs) H s1:=t7 S hr.hd e0 hl r x
 refine DF (ht [] s1 (start N vs) H _ I hq) (λfl s' hs =>?_) λe s' hs=>hs
 have fin:∀{σ':St} {H':Hp} {v:V} {u:AS},Inv (nV CX P w K mg base N qual scope f cdv A outer s H E) [] σ' H' s'->RelV v u->Q v H'->CE outer P w H s Q u s' :=
  λ{σ' H' v u} J rv q=>⟨v,H',J.os,J.bare,J.base,J.hok,rv,q⟩
 cases fl with
 | ret u =>
  obtain ⟨v,σ',H',J,rv,q⟩:=hs
  exact fin J rv q
 | next =>
  obtain ⟨σ',H',J,q⟩:=hs
  exact fin (v:=V.non) (u:=DM) J rfl q
 | brk =>
  obtain ⟨_,_,_,q⟩:=hs
  exact False.elim q
 | cont =>
  obtain ⟨_,_,_,q⟩:=hs
  exact False.elim q
open PySem PySem.Spec PyProof.Rows
section
variable  {X:Cx}{x:Str}{p pos:Pos}{e:Expr}{es:List Expr}{t:TA}{id T:String}{r:List V->Hp->VK->Prop}
def tCB (r:List V->Hp->VK->Prop)(t:TA):TE:=λσ H Q=>t σ H λvs H1=>r vs H1 Q
theorem az (hc:bK X (.builtin id) r)(hg:Gl X x)(hm:X.mg x=none)(hv:Cu x=some (.builtin id))(ha:PA X (e :: es) t)(hn:x ≠ "__name__" := by decide)(hdb:(x == ("__debug__" : Str))=false:=by decide)
  (he:Cm (e :: es) X.env=(false,eval e X.env) :: Cm es X.env:=by rfl) (hpl:(E4 pos (Cm es X.env)).any (·.1)=false:=by rfl):PE X (.Call (.Name x p) (e :: es) [] pos) (tCB r t):=by
 intro pins s σ H Q I h
 refine EZ (jj I hg hm hv ?_ hn hdb)
 exact PyProof.Rows.callWith_builtin1 (thn (ha pos pins s σ H _ I h) λus s1 ⟨vs,H1,I1,r1,q1⟩=>hc pins s1 σ H1 vs us Q I1 r1 q1) he hpl
theorem aG (hc:bK X (.type T) r)(hg:Gl X x)(hm:X.mg x=none)(hv:Cu x=some (.type T))(ha:PA X (e :: es) t)(hn:x ≠ "__name__" := by decide)(hdb:(x == ("__debug__" : Str))=false:=by decide)
  (he:Cm (e :: es) X.env=(false,eval e X.env) :: Cm es X.env:=by rfl) (hpl:(E4 pos (Cm es X.env)).any (·.1)=false:=by rfl):PE X (.Call (.Name x p) (e :: es) [] pos) (tCB r t):=by
 intro pins s σ H Q I h
 refine EZ (jj I hg hm hv ?_ hn hdb)
 exact FA (thn (ha pos pins s σ H _ I h) λus s1 ⟨vs,H1,I1,r1,q1⟩=>hc pins s1 σ H1 vs us Q I1 r1 q1) he hpl
end
end L2
namespace HT
open PySem PyProof.Rows
def lexLt:List Int->List Int->Bool
 | [],[]=>false
 | [],_ :: _=>true
 | _ :: _,[]=>false
 | x :: xs,y :: ys=>if x=y then lexLt xs ys else decide (x<y)
theorem cZ (x y:Int)(xs ys:List Int):lexLt (x :: xs) (y :: ys)=if x=y then lexLt xs ys else decide (x<y):=rfl
theorem vz (A:Cc)(s:A1)(a:Int)(t:Tok)(c:Int)(u:Tok)(prog:Bi)(w:BQ)(E:AS->A1->Prop)(Q:AS->A1->Prop)(h:Q (.bool (decide (a<c))) s) :
  Bv (BJ prog w) A (richCompare .Lt (.int a t) (.int c u)) Q E s :=
 (PyProof.Rows.lt_int h:Bv (BJ prog w) A (CP .Lt (.int a t) (.int c u)) Q E s)
section
open PySem.SeqAt
open PySem.AutoSeq1 (wpAny_loadPart')
open PySem.MeetsSeq PySem.MeetsSeq2 PySem.MeetsSeq3
end
section
variable  {prog:Bi}{w:BQ}{A:Cc}{E:AS->A1->Prop}{s:A1}
theorem xo {t b:Addr}{vs ws:List AS}{Q:AS->A1->Prop}(ht:IsTup s.heap t vs.toArray)(hb:IsTup s.heap b ws.toArray)(hv:vs≠[])
  (h1:ws=[]->Q (.ref t) s) (h2:ws≠[]->Q (.ref s.heap.objs.size) { s with heap:=s.heap.push { cls :=.type "tuple",data :=.seq (vs++ws).toArray } })
  (hsz:vs.length+ws.length<=Ba):Bv (BJ prog w) A (binaryOp .Add (.ref t) (.ref b)) Q E s:=by
 obtain ⟨⟨cls,dd,data,sl⟩,ho,hc,n,hd⟩:=id ht
 obtain ⟨⟨cls2,dd2,data2,sl2⟩,ho2,hc2,n2,hd2⟩:=id hb
 simp only at hc hd hc2 hd2
 subst hc hd hc2 hd2
 have e:vs.toArray++ws.toArray=(vs++ws).toArray:=by simp
 by_cases hw:ws=[]
 ·exact GY ⟨_,ho,rfl⟩ ⟨_,ho2,rfl⟩ Gv HG E1 EL (ED _ _)
   (tuple_addW1 t b vs.toArray ws.toArray n n2 dd dd2 sl sl2 (by simpa using hv) (by simp[hw])) ⟨ho,ho2,h1 hw⟩
 ·refine GY ⟨_,ho,rfl⟩ ⟨_,ho2,rfl⟩ Gv HG E1 EL (ED _ _)
   (tuple_addW2 t b vs.toArray ws.toArray n n2 dd dd2 sl sl2 (by simpa using hv) (by simpa using hw) (by rw[AX,AX];exact hsz)) ⟨ho,ho2,?_⟩
  rw[e]
  exact h2 hw
def sIx (n d:Nat):Option Int->Nat
 | none=>d
 | some v=>if v<0 then (v+(n:Int)).toNat else min v.toNat n
theorem j8 (n d k:Nat):sIx n d (some (k:Int))=min k n:=by
 show (if (k:Int)<0 then ((k:Int)+(n:Int)).toNat else min (k:Int).toNat n)=min k n
 rw[if_neg (by lia),B2]
theorem vA (n d:Nat)(hd:d<=n)(o:Option Int):sIx n d o<=n:=by
 cases o with
 | none=>exact hd
 | some v =>
  show (if v<0 then (v+(n:Int)).toNat else min v.toNat n)<=n
  by_cases hv:v<0
  ·rw[if_pos hv];lia
  ·rw[if_neg hv];exact Il _ _
theorem rR (v:Int)(n d:Nat):(if v<0 then max (v+(n:Int)) 0 else min v (n:Int))=((sIx n d (some v):Nat):Int):=by
 show (if v<0 then max (v+(n:Int)) 0 else min v (n:Int))=(((if v<0 then (v+(n:Int)).toNat else min v.toNat n):Nat):Int)
 by_cases hv:v<0
 ·simp only[if_pos hv];lia
 ·simp only[if_neg hv];lia
theorem qu (lo hi:Option Int)(n:Nat):Builtin.Slice.sliceAdjust lo hi 1 (n:Int)=(((sIx n 0 lo:Nat):Int),((sIx n n hi:Nat):Int)):=by
 have h1:¬ ((1:Int)<0):=by lia
 unfold Builtin.Slice.sliceAdjust
 simp only[h1,if_false]
 refine Ho ?_ ?_
 ·cases lo with
  | none=>rfl
  | some v=>exact rR v n 0
 ·cases hi with
  | none=>rfl
  | some v=>exact rR v n n
theorem qv (i j:Nat):Builtin.Slice.slicePlaces (i:Int) (j:Int) 1=j-i:=by
 unfold Builtin.Slice.slicePlaces
 have h1:(1:Int)>0:=by lia
 simp only[h1,if_true,Int.ediv_one]
 split <;> lia
theorem kI {v:AS}{o:Option Int}{Q:Option Int->A1->Prop}(p:IsPart v o)(h:Q o s):Bv (BJ prog w) A (Builtin.Slice.slicePartIndex v) Q E s:=by
 cases p with
 | none=>exact F0 h
 | int i t=>exact slicePart_int h
theorem dX {sl:Addr}{vl vu:AS}{lo hi:Option Int}{n:Nat}{Q:Int×Int×Nat->A1->Prop}(hs:s.heap.IsSliceOf sl vl vu .none)(pl:IsPart vl lo)(pu:IsPart vu hi)
  (h:Q (((sIx n 0 lo:Nat):Int),1,sIx n n hi-sIx n 0 lo) s):Bv (BJ prog w) A (Builtin.Slice.sliceApplied (.ref sl) (pure (n:Int))) Q E s:=by
 obtain ⟨os,hos,hcs,hds⟩:=id hs
 unfold Builtin.Slice.sliceApplied Builtin.Slice.sliceFields
 refine AO (AO (FF hos hds (x:=vl) rfl (AO (FF hos hds (x:=vu) rfl (AO (FF hos hds (x :=.none) rfl (AV ?_)))))))
 refine AO (F0 ?_)
 show Bv _ _ (if ((1:Int) == 0)=true then _ else _) _ _ s
 rw[if_neg (by decide)]
 refine AO (kI pl (AO (kI pu (AO (AV ?_)))))
 show Bv _ _ (match Builtin.Slice.sliceAdjust lo hi 1 (n:Int) with | (lo,hi)=>pure (lo,(1:Int),Builtin.Slice.slicePlaces lo hi 1)) _ _ s
 rw[qu lo hi n]
 show Bv _ _ (pure (((sIx n 0 lo:Nat):Int),(1:Int),Builtin.Slice.slicePlaces ((sIx n 0 lo:Nat):Int) ((sIx n n hi:Nat):Int) 1)) _ _ s
 rw[qv]
 exact AV h
theorem vB (xs:Array AS)(i k:Nat):((Bw k).filterMap λ(m:Nat)=>xs[((i:Int)+(m:Int)*1).toNat]?).toArray=((xs.toList.drop i).take k).toArray:=by
 have e:(λ(m:Nat)=>xs[((i:Int)+(m:Int)*1).toNat]?)=λm=>xs[i+m]? := by
  funext m
  have:((i:Int)+(m:Int)*1).toNat=i+m:=by lia
  rw[this]
 rw[e]
 have:=pick_run xs i k
 rw[Hq] at this
 have e2:((λx=>xs[x]?) ∘ λx=>i+x)=λm=>xs[i+m]? := rfl
 rw[e2] at this
 rw[this]
theorem iD {t sl:Addr}{items:Array AS}{vl vu:AS}{lo hi:Option Int}{Q:AS->A1->Prop}(ht:IsTup s.heap t items)(hs:s.heap.IsSliceOf sl vl vu .none)(pl:IsPart vl lo)(pu:IsPart vu hi)
  (hw:¬ (sIx items.size 0 lo=0/\sIx items.size items.size hi=items.size))
  (h:Q (.ref s.heap.objs.size) { s with heap:=s.heap.push { cls :=.type "tuple",data :=.seq ((items.toList.drop (sIx items.size 0 lo)).take (sIx items.size items.size hi-sIx items.size 0 lo)).toArray } })
  (hsz:items.size<=Ba):Bv (BJ prog w) A (getItem (.ref t) (.ref sl)) Q E s:=by
 have htake:sizeOk (.seq ((items.toList.drop (sIx items.size 0 lo)).take (sIx items.size items.size hi-sIx items.size 0 lo)).toArray):=by
  show ((items.toList.drop (sIx items.size 0 lo)).take (sIx items.size items.size hi-sIx items.size 0 lo)).toArray.size<=Ba
  rw[AX,B4,Co,A5]
  omega
 have hj:sIx items.size items.size hi<=items.size:=vA _ _ (AY _) hi
 obtain ⟨os,hos,hcs,hds⟩:=id hs
 have hTs:s.TypeIs (.ref sl) "slice" :=⟨os,hos,hcs⟩
 unfold getItem
 try with_reducible refine B8 ?_
 first | refine AO (AV ?_) | skip
 refine AO (Ge ht.typeIs (by decide) ?_)
 refine AO (Ed (name:=Str.ofString "__getitem__") ht.typeIs B3
  (Dx B3 ht.typeIs entry_tuple_getitem ?_ (FQ _ _)))
 show Bv _ _ (Builtin.Tuple.tupleItemsOf (.ref t) >>= _) _ _ s
 refine AO (HH ht ?_)
 refine AO (Dr hTs ?_)
 rw[if_pos (by decide)]
 refine AO (dX hs pl pu ?_)
 have hno:¬ ((((sIx items.size 0 lo:Nat):Int) == 0 && (1:Int) == 1 && (sIx items.size items.size hi-sIx items.size 0 lo) == items.size)=true):=by
  intro q
  rw[Cv,Cv] at q
  have q1:((sIx items.size 0 lo:Nat):Int)=0:=eq_of_beq q.1.1
  have q2:sIx items.size items.size hi-sIx items.size 0 lo=items.size:=eq_of_beq q.2
  exact hw ⟨by omega,by omega⟩
 show Bv _ _ (if (((sIx items.size 0 lo:Nat):Int) == 0 && (1:Int) == 1 && (sIx items.size items.size hi-sIx items.size 0 lo) == items.size)=true then _ else _) _ _ s
 rw[if_neg hno,vB]
 first
  | exact AO (m:=Builtin.Tuple.tupleExact _) (B9 (AV ⟨_,rfl,AV h⟩) htake)
  | exact AO (m:=Builtin.Tuple.tupleExact _) (B9 (AO (AV (AV ⟨_,rfl,AV h⟩))) htake)
  | exact AO (AO (m:=Builtin.Tuple.tupleExact _) (B9 (AV (AV ⟨_,rfl,AV h⟩)) htake))
  | exact AO (AO (m:=Builtin.Tuple.tupleExact _) (B9 (AV ⟨_,rfl,AV h⟩) htake))
end
end HT
namespace L2
open PySem PySem.Spec PyProof.Rows
abbrev TO:=St->Hp->(Option Int->Hp->Prop)->Prop
def PO (X:Cx)(e:Option Expr)(t:TO):Prop :=
 ∀(pins:List (Addr×Obj)) (s:A1) (σ:St) (H:Hp) (Q:Option Int->Hp->Prop),Inv X pins σ H s->t σ H Q →
  Bv (BJ X.prog X.w) X.A (evalPart e X.env) (λu s'=>∃o H',Inv X pins σ H' s'/\IsPart u o/\Q o H') X.xe s
def xp:TO:=λ_ H Q=>Q none H
def An (t:TE):TO:=λσ H Q=>t σ H λx H1=>∃i,x = .int i/\Q (some i) H1
theorem intsAre_of {ns:List Int}:∀{us:List AS},Vals (ns.map V.int) us->DL us ns:=by
 induction ns with
 | nil=>intro us r;rw[GH] at r;cases r;exact .nil
 | cons n ns ih =>
  intro us r
  rw[BF] at r
  cases r with
  | cons r1 r2 =>
   obtain ⟨t,e⟩:=r1
   subst e
   exact .cons n t (ih r2)
section
variable  {X:Cx}{e:Expr}{te:TE}{lo hi:Option Expr}{tl th:TO}{pos p2:Pos}
theorem bU:PO X none xp:=by
 intro pins s σ H Q I h
 rw[HI]
 exact AV ⟨none,H,I,.none,h⟩
theorem bq (h:PE X e te):PO X (some e) (An te):=by
 intro pins s σ H Q I hw
 rw[evalPart_some]
 refine thn (h pins s σ H _ I hw) λu s1 ⟨x,H1,I1,r1,q1⟩ =>?_
 obtain ⟨i,rfl,q⟩:=q1
 obtain ⟨t,rfl⟩:=r1
 exact ⟨some i,H1,I1,.int i t,q⟩
def SlR (X:Cx)(r:V->Option Int->Option Int->Hp->VK->Prop):Prop :=
 ∀(pins:List (Addr×Obj)) (s:A1) (σ:St) (H:Hp) (x:V) (v vl vu:AS) (lo hi:Option Int) (sl:Addr) (Q:VK),Inv X pins σ H s->RelV x v->s.heap.IsSliceOf sl vl vu .none->IsPart vl lo->IsPart vu hi->r x lo hi H Q →
  ∃T id,typeLookup (.type T) "__getitem__" = pure (some (.builtin id))/\s.TypeIs v T/\Bv (BJ X.prog X.w) X.A (getItem v (.ref sl)) (EP X pins σ Q) X.xe s
def tSl (r:V->Option Int->Option Int->Hp->VK->Prop)(te:TE)(tl th:TO):TE:=λσ H Q=>te σ H λx H1=>tl σ H1 λl H2=>th σ H2 λu H3=>r x l u H3 Q
theorem ba {r:V->Option Int->Option Int->Hp->VK->Prop}(hr:SlR X r)(he:PE X e te)(hl:PO X lo tl)(hu:PO X hi th):PE X (.Subscript e (.Slice lo hi none p2) pos) (tSl r te tl th):=by
 intro pins s σ H Q I h
 refine Subscript_ (thn (he pins s σ H _ I h) λv s1 ⟨x,H1,I1,r1,q1⟩ =>?_)
 refine wpAny_Slice (thn (hl pins s1 σ H1 _ I1 q1) λvl s2 ⟨l,H2,I2,pl,q2⟩=>thn (hu pins s2 σ H2 _ I2 q2) λvu s3 ⟨u,H3,I3,pu,q3⟩ =>?_)
 rw[HI]
 refine AV ?_
 have I4:Inv X pins σ H3 { s3 with heap:=s3.heap.push { cls :=.type "slice",data :=.fields #[vl,vu,.none] } }:=I3.kept (t':=s3.toks) λb ob q=>AU _ q
 obtain ⟨T,id,hT,ht,hg⟩:=hr pins { s3 with heap:=s3.heap.push { cls :=.type "slice",data :=.fields #[vl,vu,.none] } } σ H3 x v vl vu l u s3.heap.objs.size Q I4 r1 (Hr ..) pl pu q3
 show Bv (BJ X.prog X.w) X.A (subscriptTail e (.Slice lo hi none p2) v (.ref s3.heap.objs.size)) (EP X pins σ Q) X.xe { s3 with heap:=s3.heap.push { cls :=.type "slice",data :=.fields #[vl,vu,.none] } }
 exact tail_any (ops:=[.ref s3.heap.objs.size,v]) ht hT hg (by with_unfolding_all rfl)
def fE (xs:List V)(lo hi:Option Int):List V:=(xs.drop (HT.sIx xs.length 0 lo)).take (HT.sIx xs.length xs.length hi-HT.sIx xs.length 0 lo)
theorem jS (xs:List V)(lo hi:Option Int):(fE xs lo hi).length<=xs.length:=by
 unfold fE
 rw[B4,Co]
 lia
def rSlT (K:A0):V->Option Int->Option Int->Hp->VK->Prop:=λx lo hi H Q=>∃a xs,x = .ref a/\SqT K H a xs ∧
 ¬ (HT.sIx xs.length 0 lo=0/\HT.sIx xs.length xs.length hi=xs.length)/\∀p,H p=none->Q (.ref p) (upd H p (.tup (fE xs lo hi)))
theorem zq:SlR X (rSlT X.K):=by
 intro pins s σ H x v vl vu lo hi sl Q I rx hs pl pu h
 obtain ⟨a,xs,rfl,hx,hw,q⟩:=h
 cases rx
 obtain ⟨its,r,ht,hz⟩:=I.tuple hx
 have hlen:its.toArray.size=xs.length:=by rw[AX];exact r.length.symm
 refine ⟨"tuple",_,B3.lookup,ht.typeIs,?_⟩
 refine HT.iD ht hs pl pu (by rw[hlen];exact hw) ?_ (by rw[hlen];exact hz)
 rw[hlen]
 refine ⟨.ref s.heap.objs.size,_,I.laid (t':=s.toks) (o :=.tup (fE xs lo hi)) (λb ob q=>AU _ q) (AY _) ?_,rfl,q _ (I.hok.fresh (AY _))⟩
 exact ⟨BL (jS xs lo hi) hz,_,(r.drop (HT.sIx xs.length 0 lo)).take (HT.sIx xs.length xs.length hi-HT.sIx xs.length 0 lo),cV.new _ _⟩
def Ao (K:A0):R2:=λx y H Q=>∃a b xs ys,x = .ref a/\y = .ref b/\SqT K H a xs/\SqT K H b ys/\xs≠[]/\xs.length+ys.length<=Ba ∧
 (ys=[]->Q (.ref a) H)/\(ys≠[]->∀p,H p=none->Q (.ref p) (upd H p (.tup (xs++ys))))
theorem Vals.j9 {xs:List V}{us:List AS}(r:Vals xs us):us=[]↔xs=[]:=by
 cases r with
 | nil=>simp
 | cons _ _=>simp
theorem xq:OpR X (binaryOp .Add) (Ao X.K):=by
 intro pins s σ H x y v u Q I rx ry h
 obtain ⟨a,b,xs,ys,rfl,rfl,ha,hb,hx,hz,q1,q2⟩:=h
 cases rx
 cases ry
 obtain ⟨its,r1,p1,_⟩:=I.tuple ha
 obtain ⟨its2,r2,p2,_⟩:=I.tuple hb
 refine HT.xo p1 p2 (λz=>hx (r1.j9.mp z)) (λz=>⟨.ref a,H,I,rfl,q1 (r2.j9.mp z)⟩) (λz =>?_) (by rw[<- r1.length, <- r2.length];exact hz)
 refine ⟨.ref s.heap.objs.size,_,I.laid (t':=s.toks) (o :=.tup (xs++ys)) (λb ob q=>AU _ q) (AY _) ?_,rfl,q2 (λw=>z (r2.j9.mpr w)) _ (I.hok.fresh (AY _))⟩
 exact ⟨by rw[AR];exact hz,_,r1.append r2,cV.new _ _⟩
end
open PySem PySem.Spec PyProof.Rows
def ixN (n:Nat)(i:Int):Option Nat:=if 0<=i then (if i<n then some i.toNat else none) else if -(n:Int)<=i then some (i+n).toNat else none
def atI {α:Type}(xs:List α)(i:Int):Option α:=(ixN xs.length i).bind λj=>xs[j]?
theorem rT {n:Nat}{i:Int}{j:Nat}(h:ixN n i=some j):seqIndex? i n=some j/\j<n /\ -(n:Int)<=i/\i<n:=by
 unfold ixN at h
 by_cases h0:0<=i
 ·rw[if_pos h0] at h
  by_cases h1:i<n
  ·rw[if_pos h1] at h
   have e:i.toNat=j:=BC h
   exact ⟨by rw[IK h0 h1,e],by lia,by lia,h1⟩
  ·rw[if_neg h1] at h;cases h
 ·rw[if_neg h0] at h
  by_cases h1 : -(n:Int)<=i
  ·rw[if_pos h1] at h
   have e:(i+n).toNat=j:=BC h
   exact ⟨by rw[Ig (by lia) h1,e],by lia,h1,by lia⟩
  ·rw[if_neg h1] at h;cases h
theorem rV {α:Type}{xs:List α}{i:Int}{v:α}(h:atI xs i=some v):∃j,seqIndex? i xs.length=some j/\xs[j]? = some v/\j<xs.length /\ -(xs.length:Int)<=i/\i<xs.length:=by
 unfold atI at h
 cases e:ixN xs.length i with
 | none=>rw[e] at h;cases h
 | some j =>
  rw[e] at h
  obtain ⟨h1,h2,h3,h4⟩:=rT e
  exact ⟨j,h1,h,h2,h3,h4⟩
theorem bP {α:Type}{xs:List α}{j:Nat}{v:α}(h:xs[j]? = some v):atI xs (j:Int)=some v:=by
 have hj:j<xs.length:=(AW.mp h).1
 have e:ixN xs.length (j:Int)=some j:=by
  unfold ixN
  rw[if_pos (by lia),if_pos (by lia)];simp
 unfold atI;rw[e];exact h
def xr (b:Expr):Prop:=∀o i,subscripted b false o i=operate [o,i] (getItem o i)
def IxR (X:Cx)(r:R2):Prop :=
 ∀(value slice:Expr) (pins:List (Addr×Obj)) (s:A1) (σ:St) (H:Hp) (x y:V) (v u:AS) (Q:VK),Inv X pins σ H s->RelV x v->RelV y u->r x y H Q →
  subscripted slice false v u=operate [v,u] (getItem v u)->Bv (BJ X.prog X.w) X.A (subscriptTail value slice v u) (EP X pins σ Q) X.xe s
def MtR (X:Cx)(id:String)(r:V->List V->Hp->VK->Prop):Prop :=
 ∀(pins:List (Addr×Obj)) (s:A1) (σ:St) (H:Hp) (x:V) (xs:List V) (v:AS) (us:List AS) (Q:VK),Inv X pins σ H s->RelV x v->Vals xs us->r x xs H Q →
  Bv (BJ X.prog X.w) X.A (call (.builtin id) (v :: us)) (EP X pins σ Q) X.xe s
section
variable  {X:Cx}{a b:Expr}{ta tb:TE}{pos:Pos}
theorem aA {r:R2}(hr:IxR X r)(ha:PE X a ta)(hb:PE X b tb)(hs:xr b):PE X (.Subscript a b pos) (tOp r ta tb):=by
 intro pins s σ H Q I h
 exact Subscript_ (zh ha hb I h λv u s2 x y H2 I2 rx ry q=>hr a b pins s2 σ H2 x y v u Q I2 rx ry q (hs _ _))
def Ap (K:A0):R2:=λx y H Q=>∃p xs i v,x = .ref p/\y = .int i/\SqL K H p xs/\atI xs i=some v/\Q v H
def Aq (K:A0):R2:=λx y H Q=>∃p xs i v,x = .ref p/\y = .int i/\SqT K H p xs/\atI xs i=some v/\Q v H
theorem cv:IxR X (Ap X.K):=by
 intro value slice pins s σ H x y v u Q I rx ry h hs
 obtain ⟨p,xs,i,z,rfl,rfl,hq,he,q⟩:=h
 cases rx
 obtain ⟨t,rfl⟩:=ry
 obtain ⟨its,r,pl,hz⟩:=I.list hq
 obtain ⟨j,h1,h2,h3,h4,h5⟩:=rV he
 obtain ⟨w,ew,rw'⟩:=r.get h2
 have hl:=r.length
 have hn:=jl
 have fin:EP X pins σ Q w s:=⟨z,H,I,rw',q⟩
 by_cases h0:0<=i
 ·have hj:i.toNat=j:=by
   rw[IK h0 h5] at h1
   exact BC h1
  exact item_listR pl.isList h0 (by lia) (by rw[hj];simpa using ew) fin hs
 ·have hj:(i+(its.toArray.size:Int)).toNat=j:=by
   rw[Ig (by lia) h4] at h1
   rw[AX, <- hl]
   exact BC h1
  exact GC (x:=w) pl.isList.typeIs slot_list_getitem.lookup
   (wpAny_getItem_list_neg (Q:=λr s'=>r=w/\EP X pins σ Q r s') pl.isList (by lia) (by rw[AX] <;> lia) (by lia) (by rw[hj];simpa using ew) ⟨rfl,fin⟩) hs
theorem aB:IxR X (Aq X.K):=by
 intro value slice pins s σ H x y v u Q I rx ry h hs
 obtain ⟨p,xs,i,z,rfl,rfl,hq,he,q⟩:=h
 cases rx
 obtain ⟨t,rfl⟩:=ry
 obtain ⟨its,r,pl,hz⟩:=I.tuple hq
 obtain ⟨j,h1,h2,h3,h4,h5⟩:=rV he
 obtain ⟨w,ew,rw'⟩:=r.get h2
 have hl:=r.length
 have hn:=jl
 have fin:EP X pins σ Q w s:=⟨z,H,I,rw',q⟩
 exact GC (x:=w) pl.typeIs slot_tuple_getitem.lookup
  (getItem_tuple (j:=j) (Q:=λr s'=>r=w/\EP X pins σ Q r s') pl (by lia) (by lia) (by rw[AX, <- hl];exact h1) (by simpa using ew) ⟨rfl,fin⟩) hs
theorem qw (its:List AS)(n j:Nat)(u:AS):CT (·.setIfInBounds j u) { cls :=.type "list",data :=.seq its.toArray n }={ cls :=.type "list",data :=.seq (its.set j u).toArray n }:=by
 simp[CT]
theorem Inv.lst {pins:List (Addr×Obj)}{σ:St}{H:Hp}{s:A1}{p:Addr}{xs:List V}(I:Inv X pins σ H s)(h:H p=some (.lst xs)) :
  ∃(its:List AS) (n:Nat),Vals xs its/\s.heap.get? p=some { cls :=.type "list",data :=.seq its.toArray n }/\xs.length<=Ba:=by
 obtain ⟨z,its,n,r,e⟩:=I.hok p _ h
 exact ⟨its,n,r,e,z⟩
theorem Inv.zr {pins:List (Addr×Obj)}{σ:St}{H:Hp}{s:A1}{p:Addr}{xs ys:List V}{its its':List AS}{n n':Nat}{f:Obj->Obj}(I:Inv X pins σ H s)(h:H p=some (.lst xs))
  (ho:s.heap.get? p=some { cls :=.type "list",data :=.seq its.toArray n }) (hf:f { cls :=.type "list",data :=.seq its.toArray n }={ cls :=.type "list",data :=.seq its'.toArray n' }) (r:Vals ys its') (hz:ys.length<=Ba) (t:Nat) :
  Inv X pins σ (upd H p (.lst ys)) { s with heap:=s.heap.update p f,toks:=t }:=by
 have e:(s.heap.update p f).get? p=some { cls :=.type "list",data :=.seq its'.toArray n' }:=by
  rw[Ci f ho (by rw[hf] <;> rfl),hf]
 refine I.write (x:=p) (e:=p) (by rw[h];trivial) (.inl rfl) (λb u hb q=>(BB _ _ (C7 hb)).trans q) ⟨_,e⟩ ?_
 exact ⟨hz,its',n',r,e⟩
def Ar:V->V->V->Hp->(Hp->Prop)->Prop:=λo i v H Q=>∃p xs k j,o = .ref p/\i = .int k/\H p=some (.lst xs)/\ixN xs.length k=some j/\Q (upd H p (.lst (xs.set j v)))
theorem set_list:y8 X Ar:=by
 intro pins s σ H o i v ov iv u Q I ro ri rv h
 obtain ⟨p,xs,k,j,rfl,rfl,hp,hj,q⟩:=h
 cases ro
 obtain ⟨t,rfl⟩:=ri
 obtain ⟨its,n,r,ho,hz⟩:=I.lst hp
 obtain ⟨h1,h2,h3,h4⟩:=rT hj
 have hl:=r.length
 have hn:=jl
 have I':Inv X pins σ (upd H p (.lst (xs.set j v))) { s with heap:=s.heap.update p (CT (·.setIfInBounds j u)) } :=
  I.zr hp ho (qw its n j u) (r.set rv j) (by rw[GI];exact hz) s.toks
 by_cases h0:0<=k
 ·have hk:k.toNat=j:=by
   rw[IK h0 h4] at h1
   exact BC h1
  exact PySem.W.ki_setAt ho h0 (by lia) (by rw[AX, <- hl];exact h4) (by rw[hk];exact ⟨_,I',q⟩)
 ·have hk:(k+(its.toArray.size:Int)).toNat=j:=by
   rw[Ig (by lia) h3] at h1
   rw[AX, <- hl]
   exact BC h1
  exact PySem.W.ki_setBack ho (by lia) (by rw[AX, <- hl];exact h3) (by lia) (by rw[hk];exact ⟨_,I',q⟩)
theorem nW (lo hi:Option Int)(n:Nat):(sliceBounds lo hi none n).1=((HT.sIx n 0 lo:Nat):Int)/\(sliceBounds lo hi none n).2.1=((HT.sIx n n hi:Nat):Int)/\(sliceBounds lo hi none n).2.2=1:=by
 refine ⟨?_,?_,rfl⟩
 ·cases lo with
  | none=>simp[sliceBounds,HT.sIx]
  | some i =>
   simp only[sliceBounds,HT.sIx,Im,show (1:Int)>0 by decide,if_true]
   by_cases h:i<0
   ·simp only[h,if_true] <;> lia
   ·simp only[h,if_false] <;> lia
 ·cases hi with
  | none=>simp[sliceBounds,HT.sIx]
  | some i =>
   simp only[sliceBounds,HT.sIx,Im,show (1:Int)>0 by decide,if_true]
   by_cases h:i<0
   ·simp only[h,if_true] <;> lia
   ·simp only[h,if_false] <;> lia
theorem my (its:List AS)(lo hi:Option Int):slicePick its.toArray lo hi none=((its.drop (HT.sIx its.length 0 lo)).take (HT.sIx its.length its.length hi-HT.sIx its.length 0 lo)).toArray:=by
 obtain ⟨h1,h2,h3⟩:=nW lo hi its.toArray.size
 unfold slicePick
 rw[h1,h2,h3]
 simp only[sliceRange_one,pick_run,AX] <;> rfl
def rSlL (K:A0):V->Option Int->Option Int->Hp->VK->Prop:=λx lo hi H Q=>∃a xs,x = .ref a/\SqL K H a xs/\∀p,H p=none->Q (.ref p) (upd H p (.lst (fE xs lo hi)))
theorem xt:SlR X (rSlL X.K):=by
 intro pins s σ H x v vl vu lo hi sl Q I rx hs pl pu h
 obtain ⟨a,xs,rfl,hx,q⟩:=h
 cases rx
 obtain ⟨its,r,ht,hz⟩:=I.list hx
 have hlen:=r.length
 refine ⟨"list",_,slot_list_getitem.lookup,ht.isList.typeIs,?_⟩
 refine wpAny_getItem_list_slice ht.isList hs pl pu .none (by simp) ?_ (by rw[AX] <;> lia)
 rw[my, <- hlen]
 refine ⟨.ref s.heap.objs.size,_,I.laid (t':=s.toks) (o :=.lst (fE xs lo hi)) (λb ob q=>AU _ q) (AY _) ?_,rfl,q _ (I.hok.fresh (AY _))⟩
 exact ⟨BL (jS xs lo hi) hz,_,0,(r.drop (HT.sIx xs.length 0 lo)).take (HT.sIx xs.length xs.length hi-HT.sIx xs.length 0 lo),Bd _ rfl⟩
def iE:V->Bool
 | .non=>true
 | .bl _=>true
 | .int _=>true
 | .str _=>true
 | _=>false
def eqV:V->V->Bool
 | .non,.non=>true
 | .bl a,.bl b=>a == b
 | .bl a,.int b=>(if a then 1 else 0) == b
 | .int a,.bl b=>a == (if b then 1 else 0)
 | .int a,.int b=>a == b
 | .str a,.str b=>a == b
 | _,_=>false
theorem zt {A:Cc}{s:A1}{y x:V}{u v:AS}(ry:RelV y u)(rx:RelV x v)(fy:iE y=true)(fx:iE x=true):EI A s u v (eqV y x):=by
 cases y with
 | non =>
  cases ry
  cases x with
  | non=>cases rx;exact GJ _
  | bl b=>cases rx;exact SeqAt.EqAt.none_bool b
  | int b=>obtain ⟨t,rfl⟩:=rx;exact SeqAt.EqAt.none_int b t
  | str b=>obtain ⟨t,rfl⟩:=rx;exact SeqAt.EqAt.none_str b t
  | _=>exact absurd (show false=true from fx) Bf
 | bl a =>
  cases ry
  cases x with
  | non=>cases rx;exact SeqAt.EqAt.bool_none a
  | bl b=>cases rx;exact SeqAt.EqAt.bool_bool a b
  | int b=>obtain ⟨t,rfl⟩:=rx;exact SeqAt.EqAt.bool_int a b t
  | str b=>obtain ⟨t,rfl⟩:=rx;exact SeqAt.EqAt.bool_str a b t
  | _=>exact absurd (show false=true from fx) Bf
 | int a =>
  obtain ⟨t',rfl⟩:=ry
  cases x with
  | non=>cases rx;exact SeqAt.EqAt.int_none a t'
  | bl b=>cases rx;exact SeqAt.EqAt.int_bool a t' b
  | int b=>obtain ⟨t,rfl⟩:=rx;exact EM a t' b t
  | str b=>obtain ⟨t,rfl⟩:=rx;exact Hm a t' b t
  | _=>exact absurd (show false=true from fx) Bf
 | str a =>
  obtain ⟨t',rfl⟩:=ry
  cases x with
  | non=>cases rx;exact SeqAt.EqAt.str_none a t'
  | bl b=>cases rx;exact SeqAt.EqAt.str_bool a t' b
  | int b=>obtain ⟨t,rfl⟩:=rx;exact Hn a t' b t
  | str b=>obtain ⟨t,rfl⟩:=rx;exact Ht a t' b t
  | _=>exact absurd (show false=true from fx) Bf
 | _=>exact absurd (show false=true from fy) Bf
def eqU (x:V)(u:AS):Bool:=match u with
 | .none=>eqV .non x
 | .bool b=>eqV (.bl b) x
 | .int i _=>eqV (.int i) x
 | .str z _=>eqV (.str z) x
 | _=>false
theorem vC {x y:V}{u:AS}(r:RelV y u)(f:iE y=true):eqU x u=eqV y x:=by
 cases y with
 | non=>cases r;rfl
 | bl b=>cases r;rfl
 | int i=>obtain ⟨t,rfl⟩:=r;rfl
 | str z=>obtain ⟨t,rfl⟩:=r;rfl
 | _=>exact absurd (show false=true from f) Bf
theorem iF {x:V}:∀{xs:List V} {us:List AS},Vals xs us->xs.all iE=true->us.any (eqU x)=xs.any λy=>eqV y x
 | _,_,.nil,_=>rfl
 | y :: xs,u :: us,.cons r t,f=>by
  rw[Jd,Cv] at f
  rw[Ek,Ek,vC r f.1,iF t f.2]
theorem fQ {A:Cc}{s:A1}{x:V}{v:AS}(rx:RelV x v)(fx:iE x=true):∀{xs:List V} {us:List AS},Vals xs us->xs.all iE=true->∀u∈us,EI A s u v (eqU x u)
 | _,_,.nil,_=>λu hu=>by cases hu
 | y :: xs,u :: us,.cons r t,f=>λu' hu=>by
  rw[Jd,Cv] at f
  rcases Bs.mp hu with rfl | hu
  ·rw[vC r f.1];exact zt r rx f.1 fx
  ·exact fQ rx fx t f.2 u' hu
def inV (x:V)(xs:List V):Bool:=xs.any λy=>eqV y x
def rIn (K:A0)(neg:Bool):R2:=λx y H Q=>∃p xs,y = .ref p/\(SqL K H p xs\/SqT K H p xs)/\iE x=true/\xs.all iE=true/\Q (.bl (if neg then !inV x xs else inV x xs)) H
theorem t9:OpR X (CP .In) (rIn X.K false):=by
 intro pins s σ H x y v u Q I rx ry h
 obtain ⟨p,xs,rfl,hq,fx,fs,q⟩:=h
 cases ry
 rcases hq with hq | hq
 ·obtain ⟨its,r,pl,hz⟩:=I.list hq
  refine SeqAt.in_listAt (eqU x) pl.isList (λw hw=>fQ rx fx r fs w (by simpa using hw)) ⟨.bl _,H,I,rfl,?_⟩
  rw[show its.toArray.any (eqU x)=its.any (eqU x) by simp,iF r fs]
  exact q
 ·obtain ⟨its,r,pl,hz⟩:=I.tuple hq
  refine Io (eqU x) pl (λw hw=>fQ rx fx r fs w (by simpa using hw)) ⟨.bl _,H,I,rfl,?_⟩
  rw[show its.toArray.any (eqU x)=its.any (eqU x) by simp,iF r fs]
  exact q
theorem iH:OpR X (CP .NotIn) (rIn X.K true):=by
 intro pins s σ H x y v u Q I rx ry h
 obtain ⟨p,xs,rfl,hq,fx,fs,q⟩:=h
 cases ry
 rcases hq with hq | hq
 ·obtain ⟨its,r,pl,hz⟩:=I.list hq
  refine Hu (eqU x) pl.isList (λw hw=>fQ rx fx r fs w (by simpa using hw)) ⟨.bl _,H,I,rfl,?_⟩
  rw[show its.toArray.any (eqU x)=its.any (eqU x) by simp,iF r fs]
  exact q
 ·obtain ⟨its,r,pl,hz⟩:=I.tuple hq
  refine SeqAt.notIn_tupleAt (eqU x) pl (λw hw=>fQ rx fx r fs w (by simpa using hw)) ⟨.bl _,H,I,rfl,?_⟩
  rw[show its.toArray.any (eqU x)=its.any (eqU x) by simp,iF r fs]
  exact q
theorem aO:bK X (.builtin "len") (λxs H Q=>∃p ys,xs=[.ref p]/\(SqL X.K H p ys\/SqT X.K H p ys)/\Q (.int ys.length) H):=by
 intro pins s σ H xs us Q I r h
 obtain ⟨p,ys,rfl,hq,q⟩:=h
 obtain ⟨u,rfl,rx⟩:=vals1 r
 cases rx
 have hn:=jl
 rcases hq with hq | hq
 ·obtain ⟨its,r',pl,hz⟩:=I.list hq
  have hlen:=r'.length
  exact Calls.call_len_list pl.isList (by simp only[AX] <;> lia) ⟨.int ys.length,H,I.tok _,⟨s.toks+1,by rw[AX,hlen]⟩,q⟩
 ·obtain ⟨its,r',pl,hz⟩:=I.tuple hq
  have hlen:=r'.length
  exact len_tuple pl (by simp only[AX] <;> lia) ⟨.int ys.length,H,I.tok _,⟨s.toks+1,by rw[AX,hlen]⟩,q⟩
theorem aM:bK X (.type "tuple") (λxs H Q=>∃p ys,xs=[.ref p]/\((SqL X.K H p ys/\∀l,H l=none->Q (.ref l) (upd H l (.tup ys)))\/(SqT X.K H p ys/\Q (.ref p) H))):=by
 intro pins s σ H xs us Q I r h
 obtain ⟨p,ys,rfl,h⟩:=h
 obtain ⟨u,rfl,rx⟩:=vals1 r
 cases rx
 rcases h with ⟨hq,q⟩ | ⟨hq,q⟩
 ·obtain ⟨its,r',pl,hz⟩:=I.list hq
  have hlen:=r'.length
  refine call_tuple_list pl.isList (λh' kp =>?_) (by simp only[AX] <;> lia)
  have I1:Inv X pins σ H { s with heap:=h' }:=I.kept (t':=s.toks) kp
  have I2:Inv X pins σ (upd H h'.objs.size (.tup ys)) { s with heap:=h'.push { cls :=.type "tuple",data :=.seq its.toArray } } :=
   I1.laid (t':=s.toks) (λb o e=>AU _ e) (AY _) (show aZ X.prog X.w _ _ _ (.tup ys) from ⟨hz,its,r',cV.new _ _⟩)
  exact ⟨.ref h'.objs.size,_,I2,rfl,q _ (I1.hok.fresh (AY _))⟩
 ·obtain ⟨its,r',pl,hz⟩:=I.tuple hq
  exact call_tuple_same pl ⟨.ref p,H,I,rfl,q⟩
def tyV (K:A0)(T:String)(x:V)(H:Hp):Prop:=match x with
 | .str _=>T = "str"
 | .int _=>T = "int"
 | .ref p=>(T = "list" /\ ∃xs,SqL K H p xs)\/(T = "tuple" /\ ∃o,K.lookup p=some o/\o.cls = .type "tuple" /\ o.dict=none) ∨
   (T = "dict" /\ ((∃kvs,H p=some (.dK kvs))\/∃kvs,H p=some (.dT kvs)))\/(T = "set" /\ ∃S n,H p=some (.set S n))
 | _=>False
theorem vD {pins:List (Addr×Obj)}{σ:St}{H:Hp}{s:A1}{T:String}{x:V}{v:AS}(I:Inv X pins σ H s)(r:RelV x v)(ty:tyV X.K T x H) :
  s.TypeIs v T/\∀a,v = .ref a->∃ob,s.heap.get? a=some ob/\ob.dict=none:=by
 cases x with
 | str z =>
  obtain ⟨t,rfl⟩:=r
  cases (show T = "str" from ty)
  exact ⟨typeIs_str s z t,λ_ e=>nomatch e⟩
 | int i =>
  obtain ⟨t,rfl⟩:=r
  cases (show T = "int" from ty)
  exact ⟨Jc s i t,λ_ e=>nomatch e⟩
 | ref p =>
  cases r
  rcases ty with ⟨rfl,xs,hq⟩ | ⟨rfl,o,hk,hc,hd⟩ | ⟨rfl,hk⟩ | ⟨rfl,S,n,hk⟩
  ·obtain ⟨its,_,pl,_⟩:=I.list hq
   refine ⟨pl.isList.typeIs,λa e =>?_⟩
   cases e
   obtain ⟨o,n,e,c,hd,_⟩:=pl
   exact ⟨o,e,hd⟩
  ·refine ⟨⟨o,I.kIn p o hk,hc⟩,λa e =>?_⟩
   cases e
   exact ⟨o,I.kIn _ o hk,hd⟩
  ·have z:∃o,s.heap.get? p=some o/\o.ExactDict:=by
    rcases hk with ⟨kvs,hk⟩ | ⟨kvs,hk⟩
    ·obtain ⟨_,_,_,_,o,_,_,e,ex,_⟩:=I.hok p _ hk
     exact ⟨o,e,ex⟩
    ·obtain ⟨_,_,_,_,o,_,_,e,ex,_⟩:=I.hok p _ hk
     exact ⟨o,e,ex⟩
   obtain ⟨o,e,ex⟩:=z
   refine ⟨⟨o,e,ex.1⟩,λa e2 =>?_⟩
   cases e2
   exact ⟨o,e,ex.2.1⟩
  ·obtain ⟨o,_,_,_,e,ex,_⟩:=I.hok p _ hk
   refine ⟨⟨o,e,ex.1⟩,λa e2 =>?_⟩
   cases e2
   exact ⟨o,e,ex.2.1⟩
 | _=>exact False.elim ty
def tBM0 (K:A0)(T:String)(r:V->List V->Hp->VK->Prop)(to:TE):TE:=λσ H Q=>to σ H λx H1=>tyV K T x H1/\r x [] H1 Q
def tBM (K:A0)(T:String)(r:V->List V->Hp->VK->Prop)(to:TE)(t:TA):TE:=λσ H Q=>to σ H λx H1=>tyV K T x H1/\t σ H1 λxs H2=>r x xs H2 Q
variable  {o e:Expr}{es:List Expr}{to:TE}{t:TA}{name:Str}{apos cpos:Pos}{T id:String}{r:V->List V->Hp->VK->Prop}
theorem zu (pa:PlainAttrs T)(slot:Slot T name id)(hty:typeOf (.builtin id)=pure (.type "method_descriptor"))(hm:MtR X id r)(ho:PE X o to)
  (hbase:attributeBase o name X.env (eval o X.env)=eval o X.env:=by rfl) (hline:(apos.endLine == cpos.line)=true:=by rfl):PE X (.Call (.Attribute o name apos) [] [] cpos) (tBM0 X.K T r to):=by
 intro pins s σ H Q I h
 refine wpAny_Call_method0_late hbase hline (thn (ho pins s σ H _ I h) λv s1 ⟨x,H1,I1,r1,ty,q1⟩ =>?_)
 obtain ⟨h1,h2⟩:=vD I1 r1 ty
 exact ⟨T,id,pa,slot,hty,h1,h2,E2 rfl (PySem.evalArgs_none (hm pins s1 σ H1 x [] v [] Q I1 r1 .nil q1))⟩
theorem cz (pa:PlainAttrs T)(slot:Slot T name id)(hty:typeOf (.builtin id)=pure (.type "method_descriptor"))(hm:MtR X id r)(ho:PE X o to)(ha:PA X (e :: es) t)
  (hbase:attributeBase o name X.env (eval o X.env)=eval o X.env:=by rfl)
  (hfew:((E4 cpos (Cm (e :: es) X.env)).all (λx => !x.1) && (backToKw cpos (keywordEach [] X.env)).all (λx=>x.1.isSome)
   && decide ((e :: es).length+([]:List Keyword).length+(if ([]:List Keyword).isEmpty then 0 else 1)<30))=true:=by rfl)
  (hline:(apos.endLine == cpos.line)=true:=by rfl) (hs:Cm (e :: es) X.env=(false,eval e X.env) :: Cm es X.env:=by rfl) (hplain:(E4 cpos (Cm es X.env)).any (·.1)=false:=by rfl) :
  PE X (.Call (.Attribute o name apos) (e :: es) [] cpos) (tBM X.K T r to t):=by
 intro pins s σ H Q I h
 refine GD hbase hfew hline rfl (thn (ho pins s σ H _ I h) λv s1 ⟨x,H1,I1,r1,ty,q1⟩ =>?_)
 obtain ⟨h1,h2⟩:=vD I1 r1 ty
 refine ⟨T,id,pa,slot,hty,h1,h2,?_⟩
 have hA:=ha cpos pins s1 σ H1 _ I1 q1
 rw[hs] at hA ⊢
 refine E2 (by show (false || (E4 cpos (Cm es X.env)).any (·.1))=false;rw[hplain] <;> rfl) (G5 ?_)
 exact thn hA λus s2 ⟨vs,H2,I2,r2,q2⟩=>hm pins s2 σ H2 x vs v us Q I2 r1 r2 q2
end
open PySem PySem.Spec PyProof.Rows
def MtM (X:Cx)(id:String)(r:V->List V->Hp->VK->Prop):Prop :=
 ∀(pins:List (Addr×Obj)) (s:A1) (σ:St) (H:Hp) (x:V) (xs:List V) (v:AS) (us:List AS) (Q:VK),Inv X pins σ H s->RelV x v->Vals xs us->r x xs H Q →
  Bv (BJ X.prog X.w) X.A (call (.builtin id) (v :: us)) (EP X pins σ Q) X.xe s
theorem Vals.one:∀{x:V} {us:List AS},Vals [x] us->∃u,us=[u]/\RelV x u
 | _,_,.cons r .nil=>⟨_,rfl,r⟩
theorem Vals.zero:∀{us:List AS},Vals [] us->us=[]
 | _,.nil=>rfl
theorem Vals.dropLast {xs:List V}{us:List AS}(h:Vals xs us):Vals xs.dropLast us.dropLast:=by
 induction h with
 | nil=>exact .nil
 | cons r t ih =>
  cases t with
  | nil=>exact .nil
  | cons q t'=>exact .cons r ih
theorem Vals.eraseIdx:∀{xs:List V} {us:List AS} (i:Nat),Vals xs us->Vals (xs.eraseIdx i) (us.eraseIdx i)
 | _,_,_,.nil =>.nil
 | _,_,0,.cons _ t=>t
 | _,_,i+1,.cons r t =>.cons r (Vals.eraseIdx i t)
theorem Vals.reverse {xs:List V}{us:List AS}(h:Vals xs us):Vals xs.reverse us.reverse:=by
 induction h with
 | nil=>exact .nil
 | cons r t ih=>rw[HS,HS];exact Vals.append ih (.cons r .nil)
theorem qx {α:Type}(l:List α):l.eraseIdx (l.length-1)=l.dropLast:=by
 induction l with
 | nil=>rfl
 | cons a r ih =>
  cases r with
  | nil=>rfl
  | cons b r =>
   have e:(a :: b :: r).length-1=((b :: r).length-1)+1:=by
    have h1:(a :: b :: r).length=r.length+2:=rfl
    have h2:(b :: r).length=r.length+1:=rfl
    lia
   rw[e,EN,ih]
   all_goals rfl
theorem mR {α:Type}:∀(l:List α) (i:Nat),(l.eraseIdx i).length<=l.length
 | [],_=>AY _
 | _ :: _,0=>Gg _
 | _ :: r,i+1=>Gp (mR r i)
section
variable  {X:Cx}{pins:List (Addr×Obj)}{σ:St}{H:Hp}{s:A1}{l b:Addr}{xs ys zs:List V}
theorem Inv.uc {its its':List AS}{n:Nat}{f:Array AS->Array AS}{t':Nat}(I:Inv X pins σ H s)(hH:H l=some (.lst xs))
  (e:s.heap.get? l=some { cls :=.type "list",data :=.seq its.toArray n }) (hf:f its.toArray=its'.toArray) (hv:Vals ys its') (hz:ys.length<=Ba) :
  Inv X pins σ (upd H l (.lst ys)) { s with heap:=s.heap.update l (CT f),toks:=t' }:=by
 have q:=PySem.IsL.update e f
 rw[hf] at q
 refine I.write (x:=l) (e:=l) (by rw[hH];exact trivial) (.inl rfl) (λb' u hb hu=>(BB s.heap (CT f) (C7 hb)).trans hu) ⟨_,q⟩ ?_
 exact ⟨hz,its',_,hv,q⟩
theorem Inv.lnew {its:List AS}{t':Nat}(I:Inv X pins σ H s)(hv:Vals ys its)(hz:ys.length<=Ba) :
  Inv X pins σ (upd H s.heap.objs.size (.lst ys)) { s with heap:=s.heap.push { cls :=.type "list",data :=.seq its.toArray },toks:=t' } :=
 I.laid (λ_ _ q=>AU _ q) (AY _) ⟨hz,its,0,hv,Bd _ rfl⟩
theorem Inv.fresh (I:Inv X pins σ H s):H s.heap.objs.size=none:=I.hok.fresh (AY _)
theorem Inv.qy (I:Inv X pins σ H s)(hH:H l=some (.lst xs)):xs.length<=Ba/\∃(its:List AS) (n:Nat),Vals xs its/\xs.length=its.length/\s.heap.get? l=some { cls :=.type "list",data :=.seq its.toArray n }:=by
 obtain ⟨z,its,n,r,e⟩:=I.hok l _ hH
 exact ⟨z,its,n,r,r.length,e⟩
theorem vE {n:Nat}(h:n<=Ba):Builtin.List.listTooLong n=false:=by
 unfold Builtin.List.listTooLong
 exact decide_eq_false (by lia)
end
section
variable  {X:Cx}
def xu:V->List V->Hp->VK->Prop:=λx vs H Q=>∃l xs y,x = .ref l/\vs=[y]/\H l=some (.lst xs)/\xs.length<Ba/\Q .non (upd H l (.lst (xs++[y])))
theorem a7:MtM X "list.append" xu:=by
 intro pins s σ H x vs v us Q I rx rv h
 obtain ⟨l,xs,y,rfl,rfl,hH,hz,q⟩:=h
 cases rx
 obtain ⟨u,rfl,ru⟩:=rv.one
 obtain ⟨z,its,n,r,hl,e⟩:=I.qy hH
 refine Fe F.slot_list_append ⟨_,e,rfl⟩ F.entry_list_append (F.args_list_append_2 _ _) (PySem.list_append l its.toArray n u (by rw[AX];lia)) ⟨e,?_⟩
 refine ⟨.non,_,I.uc (its':=its++[u]) hH e (by simp) (r.append (.cons ru .nil)) ?_,rfl,q⟩
 rw[AR,Ca]
 lia
def xv:V->List V->Hp->VK->Prop:=λx vs H Q=>∃l b xs zs,x = .ref l/\vs=[.ref b]/\H l=some (.lst xs)/\H b=some (.lst zs)/\xs.length+zs.length<=Ba/\Q .non (upd H l (.lst (xs++zs)))
theorem ud:MtM X "list.extend" xv:=by
 intro pins s σ H x vs v us Q I rx rv h
 obtain ⟨l,b,xs,zs,rfl,rfl,hH,hB,hz,q⟩:=h
 cases rx
 obtain ⟨u,rfl,ru⟩:=rv.one
 cases ru
 obtain ⟨z,its,n,r,hl,e⟩:=I.qy hH
 obtain ⟨z2,its2,n2,r2,hl2,e2⟩:=I.qy hB
 have hsz:its.toArray.size+its2.toArray.size<=Ba:=by rw[AX,AX];lia
 have hlong:¬ (!its.toArray.isEmpty && Builtin.List.listTooLong (its.toArray.size+its2.toArray.size))=true:=by
  rw[vE hsz,G9]
  exact Bf
 refine Fe F.slot_list_extend ⟨_,e,rfl⟩ F.entry_list_extend (F.args_list_extend_2 _ _)
  (AutoSeq1.list_extend_list_list_0 l its.toArray n b its2.toArray n2 hlong (by rw[AX];lia) (by lia)) ⟨e,e2,?_⟩
 refine ⟨.non,_,I.uc (its':=its++its2) hH e (by simp) (r.append r2) ?_,rfl,q⟩
 rw[AR]
 lia
def rPop:V->List V->Hp->VK->Prop:=λx vs H Q=>∃l xs y,x = .ref l/\vs=[]/\H l=some (.lst xs)/\xs[xs.length-1]? = some y/\Q y (upd H l (.lst xs.dropLast))
theorem zv:MtM X "list.pop" rPop:=by
 intro pins s σ H x vs v us Q I rx rv h
 obtain ⟨l,xs,y,rfl,rfl,hH,hy,q⟩:=h
 cases rx
 have hus:=rv.zero
 subst hus
 obtain ⟨z,its,n,r,hl,e⟩:=I.qy hH
 obtain ⟨u,hu,ru⟩:=r.get hy
 have hy':its.toArray[its.toArray.size-1]? = some u:=by
  show its.toArray[its.length-1]? = some u
  rw[<- A9, <- hl]
  exact hu
 refine Fe Iz ⟨_,e,rfl⟩ Ip (F.args_list_pop_1 _) (MeetsSeq.list_pop_last l its.toArray n u hy' (by rw[AX];lia)) ⟨e,?_⟩
 refine ⟨y,_,I.uc (its':=its.dropLast) hH e ?_ r.dropLast ?_,ru,q⟩
 ·show its.toArray.eraseIdxIfInBounds (its.toArray.size-1)=its.dropLast.toArray
  rw[AX,E6,qx]
 ·rw[List.length_dropLast]
  lia
def zw:V->List V->Hp->VK->Prop:=λx vs H Q=>∃l xs i k y,x = .ref l/\vs=[.int i]/\H l=some (.lst xs) /\ -(2 ^ 63)<=i/\i<2 ^ 63/\seqIndex? i xs.length=some k/\xs[k]? = some y/\Q y (upd H l (.lst (xs.eraseIdx k)))
theorem o3:MtM X "list.pop" zw:=by
 intro pins s σ H x vs v us Q I rx rv h
 obtain ⟨l,xs,i,k,y,rfl,rfl,hH,h1,h2,hk,hy,q⟩:=h
 cases rx
 obtain ⟨u,rfl,ru⟩:=rv.one
 obtain ⟨t,rfl⟩:=ru
 obtain ⟨z,its,n,r,hl,e⟩:=I.qy hH
 obtain ⟨w,hw,rw'⟩:=r.get hy
 refine Fe Iz ⟨_,e,rfl⟩ Ip (F.args_list_pop_2 _ _)
  (MeetsSeq.list_pop_at l its.toArray n i t k w (fitsIndex_both h1 h2) (by rw[AX, <- hl];exact hk) (by rw[<- A9];exact hw) (by rw[AX];lia)) ⟨e,?_⟩
 refine ⟨y,_,I.uc (its':=its.eraseIdx k) hH e ?_ (r.eraseIdx k) ?_,rw',q⟩
 ·show its.toArray.eraseIdxIfInBounds k=(its.eraseIdx k).toArray
  rw[E6]
 ·have:=mR xs k
  lia
end
section
variable  {prog:Bi}{w:BQ}{A:Cc}{E:AS->A1->Prop}{s:A1}
end
section
variable  {X:Cx}
end
end L2
namespace Att
open PySem PySem.W PySem.Calls PyProof.Rows
theorem j4 {P:Params}{h:Heap}:∀(ns:List Int) (vs:List AS),WellAll P h vs (ns.map WData.int)->DL vs ns:=by
 intro ns
 induction ns with
 | nil =>
  intro vs w
  rw[GH] at w
  cases w
  exact .nil
 | cons n ns ih =>
  intro vs w
  rw[BF] at w
  cases w with
  | cons a b =>
   cases a
   exact .cons _ _ (ih _ b)
theorem ue {l:OpenLaw}{n:Nat}(hn:l.most=some n){P:Params}{h:Heap}{args:List WData}{vals:List AS}
  (hpre:l.row.toRowW.claim.pre args=true) (hwl:WellAll P h vals args) :
  ∃a vs ns,vals=[Bl a]/\args=[WData.list (ns.map WData.int)]/\h.get? a=some { cls :=.type "list",data :=.seq vs.toArray }/\DL vs ns/\ns.length<=n:=by
 have hsh:WShape.hasAll [] args [.list .int]=true:=(pre_splitW hpre).1
 have hc:l.pre.holds [] { args:=args }=true:=(pre_splitW hpre).2
 obtain ⟨d,r,rfl,h1,h2⟩:=hasAllW_cons hsh
 obtain rfl:=hasAllW_nil h2
 obtain ⟨xs,rfl,h3⟩:=hasW_list h1
 obtain ⟨ns,rfl⟩:=items_int h3
 have hlen:ns.length<=n:=by
  unfold OpenLaw.pre at hc
  have h4:(WTm.not (.lt (.lit (.int (n:Int))) (.len (.arg 0)))).holds [] { args:=[.list (ns.map .int)] }=true:=by
   have h4:=(holds_andW hc).1
   rw[hn] at h4
   exact h4
  have h5:=condW_of h4 (w_not (w_lt w_lit (w_len_list (w_arg rfl))))
  rw[AN] at h5
  refine Fj λq =>?_
  have q':(n:Int)<((ns.length:Nat):Int):=by omega
  first
   | (rw[decide_eq_true q'] at h5;exact absurd h5 (by decide))
   | (simp at h5;omega)
 cases hwl with
 | cons w1 w2 =>
  cases w2
  cases w1 with
  | list ho hall=>exact ⟨_,_,ns,rfl,rfl,ho,j4 ns _ hall,hlen⟩
theorem uf (l:OpenLaw)(args:List WData):l.row.toRowW.claim.post args (.bool true) args=true :=
 postW_of (r:=l.row.toRowW) (X:=(true == true))
  (show WShape.has [] (.bool true) .bool=true by first | rfl | decide | simp[WShape.has,WShape.arms,WShape.armsAll])
  (show (WTm.eq .res (.lit (.bool true))).value [] { args:=args,res:=some (.bool true),after:=args }=some (.bool (true == true)) from w_eq_bool (w_res rfl) w_lit) rfl
theorem o4 {l:OpenLaw}{n:Nat}{q:Bi}{loose:List Str}{XP:(Str->Option AS)->Heap->Prop}{YP:BQ->Heap->Prop}{d:DefRec}
  (hn:l.most=some n) (hdf:d.params.defaults=[])
  (call:∀(w:BQ) (s₀ s₁:A1) (mg mb:Str->Option AS) (fa:Addr) (o:Obj) (pm cd doc:AS) (a:Addr) (vs:List AS) (ns:List Int),
   Ground q loose [] XP w s₀ mg mb s₁.heap->YP w s₁.heap →
   s₁.heap.get? fa=some o->o.data = .func (docDef d.name d.params d.body d.scope pm cd doc)->s₁.heap.CodeRec cd d.name->mg d.name=some (.ref fa) →
   s₁.heap.get? a=some { cls :=.type "list",data :=.seq vs.toArray }->DL vs ns->ns.length<=n->s₁.gens = #[] →
   Ff (BJ l.prog w) callerA (.call (.ref fa) ⟨[.ref a],[]⟩) (λr s'=>r = .ok (.ret (.bool true))/\OldK s₁.heap s'.heap/\s'.os=s₁.os/\AllBare s'.gens) s₁) :
  WalkO q loose XP YP l.row.toRowW d [] (λf vs=>PySem.call f vs):=by
 intro w s₀ s₁ mg mb G Y fa o pm cd doc dV kV ho hd hcd hD hmg hg args vals as hpre hlay hrd hwl hlo
 obtain rfl:dV = .none:=Dflts.none hD hdf
 obtain rfl:kV = .none:=Dflts.noKw hD
 obtain ⟨a,vs,ns,rfl,rfl,hobj,hints,hlen⟩:=ue hn hpre hwl
 refine enter_call (EH (call w s₀ s₁ mg mb fa o pm cd doc a vs ns G Y ho (fd_plain hd) hcd hmg hobj hints hlen hg) λr s' hq =>?_)
 obtain ⟨rfl,h2,h3,h4⟩:=hq
 exact ⟨.inl ⟨.bool true,.bool true,[],rfl,λ_=>rfl,.bool true,uf l _,λ_=>⟨List.Pairwise.nil,λ_ hm=>(nomatch hm)⟩⟩,h2,h3,h4⟩
section
variable  {prog:Bi}{w:BQ}{A:Cc}{E:AS->A1->Prop}{s:A1}{K:Frag}
def ledger (h:Heap)(L d:Addr):List (Addr×Obj):=(Bw h.objs.size).filterMap λa=>if a=L\/a=d then none else (h.get? a).map λo=>(a,o)
end
end Att
namespace L2
open PySem PySem.Spec PyProof.Rows
theorem jq:∀{vs:List AS} {ns:List Int},DL vs ns->Vals (ns.map V.int) vs
 | _,_,.nil =>.nil
 | _,_,.cons n t h =>.cons ⟨t,rfl⟩ (jq h)
def zx (H:Hp):Prop:=∀b,H b=none\/∃o xs,H b=some (.frz o (.lst xs))
theorem vF {P:Bi}{w:BQ}{K:A0}{mg mb:Str->Option AS}{CX:CXT}{k:Nat}{fa a:Addr}{fd:Cd}{x:Str}{sp:Sp}{s₁:A1}{vs:List AS}{ns:List Int}
  (KX:K.In s₁.heap) (hns:s₁.heap.Ns Cf mg) (hb:s₁.heap.Ns builtinsNs mb) (hbb:∀x:Str,x ≠ "__name__" -> mb x=Cu x) (hlim:s₁.heap.NoLimit) (hg:s₁.gens = #[])
  (ha:s₁.heap.get? a=some { cls :=.type "list",data :=.seq vs.toArray }) (hi:DL vs ns) (hl:ns.length<=Ba) (hr:cM k callerA)
  (F:∀base:Heap,K.In base->base.Ns Cf mg->bB P w K mg base CX k fa fd [x] sp) (hbind:∀(s:A1) (u:AS),BindsTo s fd ⟨[u],[]⟩ [(x,u)])
  (hsp:∀H:Hp,zx H->SqL K H a (ns.map V.int)->sp [.ref a] H (λv _=>v = .bl true) λ_ _ _=>False)
  (hCX:∀H e s',CX [] H s₁ (λ_ _ _=>False) e s'->False) :
  Ff (BJ P w) callerA (.call (.ref fa) ⟨[.ref a],[]⟩) (λr s'=>r = .ok (.ret (.bool true))/\OldK s₁.heap s'.heap/\s'.os=s₁.os/\AllBare s'.gens) s₁:=by
 have rv:=jq hi
 have lenV:=hi.length
 have core:∀H:Hp,zx H->SqL K H a (ns.map V.int)->HOk P w H s₁.heap->(∀b,H b≠none->b=a)->(H a≠none->K.lookup a=none) →
   Ff (BJ P w) callerA (.call (.ref fa) ⟨[.ref a],[]⟩) (λr s'=>r = .ok (.ret (.bool true))/\OldK s₁.heap s'.heap/\s'.os=s₁.os/\AllBare s'.gens) s₁:=by
  intro H hO hS hok hA hK
  have base_of:∀{b:Addr} {o:Obj},s₁.heap.get? b=some o->H b=none->(nM s₁.heap H).get? b=some o:=λe n=>vj e n
  have noA:∀{b:Addr} {o:Obj} {es:Array DictEntry} {ep:Nat},s₁.heap.get? b=some o->o.data = .dict es ep->H b=none:=λ{b o es ep} e d=>by
   cases q:H b with
   | none=>rfl
   | some u =>
    have e':b=a:=hA b (by rw[q];simp)
    subst e'
    rw[ha] at e;cases e
    have d':Data.seq vs.toArray _=Data.dict es ep:=d
    cases d'
  have nsK:∀{b:Addr} {m:Str->Option AS},s₁.heap.Ns b m->(nM s₁.heap H).Ns b m:=λ{b m} ⟨o,es,ep,e,d,r⟩=>⟨o,es,ep,base_of e (noA e d),d,r⟩
  have hKb:K.In (nM s₁.heap H):=λb o e=>base_of (KX b o e) (by
   cases q:H b with
   | none=>rfl
   | some u =>
    have e':b=a:=hA b (by rw[q];simp)
    subst e'
    rw[hK (by rw[q];simp)] at e;cases e)
  have hM:Mod K mg (nM s₁.heap H):=⟨hKb,nsK hns,⟨mb,nsK hb,hbb⟩,let ⟨mc,h1,h2⟩:=hlim;⟨mc,nsK h1,h2⟩⟩
  have e0:xh P w K mg (nM s₁.heap H) callerA [] s₁ H:=⟨rfl,hM,λb o e=>w4 e,Nat.le_of_eq (tV _ _),trivial,λb hb=>absurd (show b∈([]:List Addr) from hb) (by simp),hok,.of_eq hg⟩
  refine EH ((F _ hKb (nsK hns)).run callerA [] s₁ H ⟨[.ref a],[]⟩ [.ref a] [.ref a] _ _ hr e0 (hbind s₁ (.ref a)) (.cons rfl .nil) (hsp H hO hS)) λr s' h =>?_
  cases r with
  | error e=>exact (hCX H e s' h).elim
  | ok fl =>
   cases fl with
   | next=>exact False.elim h
   | brk=>exact False.elim h
   | cont=>exact False.elim h
   | ret u =>
    obtain ⟨v,H',os,bare,un,hok',r',q⟩:=h
    have q':v = .bl true:=q
    subst q'
    obtain rfl:u=Value.bool true:=r'
    refine ⟨rfl,OldK.of_keep λb o e =>?_,os,bare⟩
    cases q:H b with
    | none=>exact un.keep b o e q (by intro z;exact absurd (show b∈([]:List Addr) from z) (by simp)) (by simp)
    | some u =>
     rcases hO b with z | ⟨ob,xs,z⟩
     ·rw[q] at z;cases z
     ·have z2:=un.frzs b ob _ z
      obtain ⟨e1,_⟩:=hok b _ z
      obtain ⟨e2,_⟩:=hok' b _ z2
      rw[e] at e1;cases e1
      exact e2
 cases hk:K.lookup a with
 | some o =>
  have e:=KX a o hk
  rw[ha] at e
  cases e
  refine core (λ_=>none) (λ_ =>.inl rfl) (.inr ⟨_,vs.toArray,_,hk,rfl,rfl,rfl,by rw[AX,lenV];exact hl,by simpa using rv⟩) (λb u z=>by have z':(none:Option HO)=some u:=z;cases z') (λb z=>absurd rfl z) λz=>absurd rfl z
 | none =>
  refine core (λb=>if b=a then some (.frz { cls :=.type "list",data :=.seq vs.toArray } (.lst (ns.map V.int))) else none) (λb =>?_) (.inl (.inr ⟨{ cls :=.type "list",data :=.seq vs.toArray },if_pos rfl⟩)) (λb u z =>?_) (λb z =>?_) λ_=>hk
  ·by_cases hb:b=a
   ·exact .inr ⟨_,_,if_pos hb⟩
   ·exact .inl (if_neg hb)
  ·by_cases hb:b=a
   ·have z':=(if_pos hb).symm.trans z
    cases z'
    subst hb
    exact ⟨ha,by rw[AN];exact hl,vs,_,rv,ha⟩
   ·have z':=(if_neg hb).symm.trans z
    cases z'
  ·by_cases hb:b=a
   ·exact hb
   ·exact absurd (if_neg hb) z
open PySem PySem.Spec PyProof.Rows
theorem xw {l:PySem.W.OpenLaw}{n k:Nat}{q:Bi}{loose:List Str}{XP:(Str->Option AS)->Heap->Prop}{YP:BQ->Heap->Prop}{d:DefRec}{K:Params->A0}{CX:BQ->CXT}{sp:BQ->Sp}{x:Str}
  (hn:l.most=some n) (hn2:n<=Ba) (hdf:d.params.defaults=[]) (hr:cM k callerA)
  (hY:∀(w:BQ) (h:Heap),YP w h->(K w.params).In h)
  (F:∀(w:BQ) (mg:Str->Option AS) (fa:Addr) (h:Heap),(K w.params).In h->h.Ns Cf mg->mg d.name=some (.ref fa) →
   ∃fd:Cd,(∀(s:A1) (u:AS),BindsTo s fd ⟨[u],[]⟩ [(x,u)]) ∧
    ∀base:Heap,(K w.params).In base->base.Ns Cf mg->bB l.prog w (K w.params) mg base (CX w) k fa fd [x] (sp w))
  (hsp:∀(w:BQ) (H:Hp) (a:Addr) (ns:List Int),ns.length<=n->zx H->SqL (K w.params) H a (ns.map V.int)->sp w [.ref a] H (λv _=>v = .bl true) λ_ _ _=>False)
  (hCX:∀(w:BQ) (H:Hp) (s:A1) (e:AS) (s':A1),CX w [] H s (λ_ _ _=>False) e s'->False) :
  PySem.W.WalkO q loose XP YP l.row.toRowW d [] (λf vs=>PySem.call f vs):=by
 refine Att.o4 hn hdf λw s₀ s₁ mg mb fa o pm cd doc a vs ns G Y ho hd hcd hmg hobj hints hlen hg =>?_
 have KX:=hY w _ Y
 obtain ⟨fd,hb,hF⟩:=F w mg fa _ KX G.T.g hmg
 exact vF KX G.T.g G.T.b G.T.builtins G.T.nolimit hg hobj hints (BL hlen hn2) hr hF hb (λH hO hS=>hsp w H a ns hlen hO hS) λH e s'=>hCX w H s₁ e s'
open PySem PySem.Spec PyProof.Rows
def dD (s:Stmt):Arguments:=match s with
 | .FunctionDef _ a _ _ _ _ _ _ _ _=>a
 | _=>{ posonlyargs:=[],args:=[],vararg:=none,kwonlyargs:=[],kw_defaults:=[],kwarg:=none,defaults:=[] }
def cg (s:Stmt):List Stmt:=match s with
 | .FunctionDef _ _ b _ _ _ _ _ _ _=>b
 | _=>[]
def ak (s:Stmt):Scope:=match s with
 | .FunctionDef _ _ _ _ _ _ sc _ _ _=>sc
 | _=>{ kind :=.function,names:=[],isGenerator:=false,isCoroutine:=false }
abbrev CX0:CXT:=λ_ _ _ _ _ _=>False
abbrev E0:XK:=λ_ _ _=>False
theorem As {X:Cx}:Passes CX0 X E0:=λ_ _ _ _ _ _ _ h=>h.elim
structure Fun (K:A0)(x qual:Str)(st:Stmt)(f:Addr)(fd:Cd):Prop where
 ex:∃(oc:AS) (od:Option Addr) (kV doc pm:AS) (an:Option Addr) (cdv ct:AS) (osl:Array (Option AS)),
  fd=PySem.W.fnOf x qual (dD st) (cg st) (ak st) .none kV doc pm an cdv ct/\K.lookup f=some ⟨oc,od,.func fd,osl⟩/\PySem.W.codeIn K cdv qual=true
 kp:PySem.W.keepIn K (.ref f)=true
section
variable  {P:Bi}{w:BQ}{K:A0}{mg:Str->Option AS}{base:Heap}
theorem Fun.ok {x qual:Str}{st:Stmt}{f:Addr}{fd:Cd}{N ps:List Str}{k:Nat}{sp:Sp}(F:Fun K x qual st f fd)(S:aH N ps (ak st))(len:∀vs H Q E,sp vs H Q E->vs.length=ps.length)
  (hbody:∀(cdv:AS) (A:Cc) (outer:List Env) (s:A1) (H:Hp) (vs:List V) (Q:VK) (E:XK),cM k (A.deeper (envOfC qual (ak st) s.heap.objs.size f cdv))->sp vs H Q E →
   ∃t,PSs (nV CX0 P w K mg base N qual (ak st) f cdv A outer s H E).nox (cg st) t/\t { nx:=λ_ H'=>Q .non H',rt:=Q } (start N vs) H):bB P w K mg base CX0 (k+1) f fd ps sp:=by
 obtain ⟨oc,od,kV,doc,pm,an,cdv,ct,osl,rfl,lk,hcd⟩:=F.ex
 refine Am lk hcd S len λA outer s H vs Q E hr hsp =>?_
 obtain ⟨t,h,q⟩:=hbody cdv A outer s H vs Q E hr hsp
 exact ⟨t,h.nox,q⟩
theorem Fun.binds {x qual:Str}{st:Stmt}{f:Addr}{fd:Cd}{ps:List Str}(F:Fun K x qual st f fd)
  (h:∀(kV doc pm:AS) (an:Option Addr) (cdv ct:AS) (us:List AS),us.length=ps.length->bindArgs (PySem.W.fnOf x qual (dD st) (cg st) (ak st) .none kV doc pm an cdv ct) ⟨us,[]⟩=pure (ps.zip us)):Binds K fd ps []:=by
 obtain ⟨oc,od,kV,doc,pm,an,cdv,ct,osl,rfl,lk,hcd⟩:=F.ex
 exact .all (h kV doc pm an cdv ct)
theorem vG {x qual:Str}{st:Stmt}{f:Addr}{oc:AS}{od an:Option Addr}{osl:Array (Option AS)}{kV doc pm cdv ct:AS}(l:K.lookup f=some ⟨oc,od,.func (PySem.W.fnOf x qual (dD st) (cg st) (ak st) .none kV doc pm an cdv ct),osl⟩)
  (c:PySem.W.codeIn K cdv qual=true) (k:PySem.W.keepIn K (.ref f)=true):Fun K x qual st f (PySem.W.fnOf x qual (dD st) (cg st) (ak st) .none kV doc pm an cdv ct):=⟨⟨oc,od,kV,doc,pm,an,cdv,ct,osl,rfl,l,c⟩,k⟩
end
theorem yA {A:Cc}{k:Nat}(hr:cM k A):A.units+1<cLine:=EO (Ex (by decide:1<=64) _) hr.units
theorem aY {n:Nat}(h:n<=1000):n<Ba:=EO h (by decide)
section
variable  {X:Cx}
theorem pv (i:Nat){x:Str}{pos:Pos}(hN:X.N[i]? = some x:=by rfl)(hv:Vis X.env.scope x:=by first | exact Or.inl rfl | exact Or.inr (Or.inl rfl) | exact Or.inr (Or.inr rfl))(hd:(x == ("__debug__" : Str))=false:=by decide)
  (hcd:(x == ("__classdict__" : Str))=false:=by decide):PE X (.Name x pos) (z4 i):=yZ hN hv hd hcd
end
theorem bH {A B:Prop}(h:B):if false=true then A else B:=by
 rw[if_neg Bf]
 exact h
theorem cG {A B:Prop}(h:A):if true=true then A else B:=by
 rw[if_pos rfl]
 exact h
theorem bV {c A B:Prop}[Decidable c](h1:c->A)(h2:¬ c->B):if c then A else B:=by
 by_cases h:c
 ·rw[if_pos h]
  exact h1 h
 ·rw[if_neg h]
  exact h2 h
theorem o5 {c A B:Prop}[Decidable c](hc:c)(h:B):if (!decide c)=true then A else B:=by
 rw[decide_eq_true hc]
 exact bH h
def ay (H H':Hp):Prop:=∀b o,H b=some o->H' b=some o
theorem ay.refl (H:Hp):ay H H:=λ_ _ h=>h
theorem ay.trans {H H1 H2:Hp}(a:ay H H1)(b:ay H1 H2):ay H H2:=λc o h=>b c o (a c o h)
theorem ay.free {H H':Hp}(e:ay H H'){l:Addr}(h:H' l=Option.none):H l=Option.none:=by
 cases q:H l with
 | none=>rfl
 | some o =>
  rw[e l o q] at h
  cases h
theorem ay.seq {K:A0}{H H':Hp}{a:Addr}{xs:List V}(e:ay H H')(h:SqL K H a xs):SqL K H' a xs:=by
 rcases h with (h | ⟨o,h⟩) | h
 ·exact .inl (.inl (e _ _ h))
 ·exact .inl (.inr ⟨o,e _ _ h⟩)
 ·exact .inr h
end L2
set_option maxHeartbeats 4000000
namespace L2
open PySem PySem.Spec PyProof.Rows
def o6 (on:List (Str×NameKind))(N:List Str)(sc:Scope)(N':List Str)(ix:List (Option Nat)):Bool :=
 decide (sc.kind = .function) &&
 sc.names.all (λy=>match y.2 with
  | .local=>decide (sc.names.lookup y.1=some .local)
  | .cell=>false
  | .free=>decide (on.lookup y.1=some .cell) || decide (on.lookup y.1=some .free)
  | _=>true) &&
 decide (ix.length=N'.length) &&
 (ix.zip N').all (λp=>match p.1 with
  | none=>true
  | some j=>decide (N[j]? = some p.2) && decide (sc.names.lookup p.2=some .free))
theorem jT {ns:List (Str×NameKind)}{y:Str}{k:NameKind}(h:ns.lookup y=some k):(y,k)∈ns:=DI h
structure kJ (on:List (Str×NameKind))(N:List Str)(sc:Scope)(N':List Str)(ix:List (Option Nat)):Prop where
 kind:sc.kind = .function
 locs:∀y∈sc.names,y.2 = .local->sc.names.lookup y.1=some .local
 nocell:∀y∈sc.names,y.2 ≠ .cell
 frees:∀y∈sc.names,y.2 = .free->on.lookup y.1=some .cell\/on.lookup y.1=some .free
 len:ix.length=N'.length
 slot:∀(i j:Nat) (y:Str),ix[i]? = some (some j)->N'[i]? = some y->N[j]? = some y/\sc.names.lookup y=some .free
theorem kJ.of {on:List (Str×NameKind)}{N:List Str}{sc:Scope}{N':List Str}{ix:List (Option Nat)}(h:o6 on N sc N' ix=true):kJ on N sc N' ix:=by
 unfold o6 at h
 rw[Cv,Cv,Cv] at h
 obtain ⟨⟨⟨h1,h2⟩,h3⟩,h4⟩:=h
 rw[CD] at h2 h4
 refine ⟨of_decide_eq_true h1,λy hy e =>?_,λy hy e =>?_,λy hy e =>?_,of_decide_eq_true h3,λi j y e1 e2 =>?_⟩
 ·have q:=h2 y hy
  rw[e] at q
  exact of_decide_eq_true q
 ·have q:=h2 y hy
  rw[e] at q
  cases q
 ·have q:=h2 y hy
  rw[e] at q
  exact ((Bool.or_eq_true _ _).mp q).imp of_decide_eq_true of_decide_eq_true
 ·have q:=h4 (some j,y) (A8 (i:=i) (by rw[CI];exact ⟨e1,e2⟩))
  dsimp only at q
  rw[Cv] at q
  exact ⟨of_decide_eq_true q.1,of_decide_eq_true q.2⟩
theorem jU {α β:Type}(f:α -> β -> β)(b:α -> β -> Sem (ForInStep β)):∀(l:List α) (c:β),(∀x∈l,∀d,b x d=pure (.yield (f x d)))->forIn l c b=pure (l.foldl (λd x=>f x d) c)
 | [],c,_=>rfl
 | x :: l,c,h=>by
  rw[List.forIn_cons,h x Be,pure_bind]
  exact jU f b l (f x c) λy hy=>h y (Br _ hy)
def aS (env:Env)(l:List (Str×NameKind))(c:List (Str×Addr)):List (Str×Addr) :=
 l.foldl (λd y=>if y.2 = .free then (y.1,(env.cells.lookup y.1).getD 0) :: d else d) c
theorem qz {sc:Scope}{env:Env}(h:∀y∈sc.names,y.2 = .free->∃c,env.cells.lookup y.1=some c):closureFor sc env=pure (aS env sc.names []):=by
 simp only[closureFor]
 unfold aS
 rw[jU (λy d=>if y.2 = .free then (y.1,(env.cells.lookup y.1).getD 0) :: d else d)]
 ·rfl
 ·rintro ⟨n,k⟩ hy d
  by_cases hk:k = .free
  ·subst hk
   obtain ⟨c,e⟩:=h _ hy rfl
   have e':env.cells.lookup n=some c:=e
   simp only[beq_self_eq_true,if_true,cellOf,e',Option.getD_some]
   rfl
  ·have hb:(k == NameKind.free)=false:=by simpa using hk
   simp only[hb,Bk,if_false,hk]
theorem cP {env:Env}{y:Str}{c:Addr}:∀(l:List (Str×NameKind)) (d:List (Str×Addr)),(∀z∈l,z.2 = .free->∃c,env.cells.lookup z.1=some c)->(aS env l d).lookup y=some c →
  d.lookup y=some c\/env.cells.lookup y=some c
 | [],d,_,h =>.inl h
 | (n,k) :: l,d,hf,h=>by
  have h':(aS env l (if k = .free then (n,(env.cells.lookup n).getD 0) :: d else d)).lookup y=some c:=h
  have ih:=cP l _ (λz hz=>hf z (Br _ hz)) h'
  by_cases hk:k = .free
  ·subst hk
   rw[if_pos rfl] at ih
   rcases ih with q | q
   ·rw[Et] at q
    cases hx:(y == n) with
    | true =>
     rw[hx] at q
     obtain ⟨c',e⟩:=hf (n,.free) Be rfl
     have e':env.cells.lookup n=some c':=e
     have q':some ((env.cells.lookup n).getD 0)=some c:=q
     rw[e'] at q'
     have en:y=n:=eq_of_beq hx
     rw[en,e']
     exact .inr q'
    | false =>
     rw[hx] at q
     exact .inl q
   ·exact .inr q
  ·rw[if_neg hk] at ih
   exact ih
theorem eY {env:Env}{y:Str}:∀(l:List (Str×NameKind)) (d:List (Str×Addr)),((y,NameKind.free)∈l\/∃c,d.lookup y=some c)->∃c,(aS env l d).lookup y=some c
 | [],d,h=>by
  rcases h with h | h
  ·cases h
  ·exact h
 | (n,k) :: l,d,h=>by
  show ∃c,(aS env l (if k = .free then (n,(env.cells.lookup n).getD 0) :: d else d)).lookup y=some c
  refine eY l _ ?_
  have old:(∃c,d.lookup y=some c)->∃c,(if k = .free then (n,(env.cells.lookup n).getD 0) :: d else d).lookup y=some c:=λ⟨c,e⟩=>by
   by_cases hk:k = .free
   ·rw[if_pos hk,Et]
    cases hx:(y == n) with
    | true=>exact ⟨_,rfl⟩
    | false=>exact ⟨c,e⟩
   ·rw[if_neg hk];exact ⟨c,e⟩
  rcases h with h | h
  ·rcases Bs.mp h with q | q
   ·cases q
    rw[if_pos rfl,Et,beq_self_eq_true]
    exact .inr ⟨_,rfl⟩
   ·exact .inl q
  ·exact .inr (old h)
theorem kK {c:Str->NameKind->Bool}{y:Str}:∀l:List (Str×NameKind),(l.map λz=>if c z.1 z.2=true then (z.1,NameKind.cell) else (z.1,z.2)).lookup y=(l.lookup y).map λk=>if c y k=true then NameKind.cell else k
 | []=>rfl
 | (n,k) :: l=>by
  have ih:=kK (c:=c) (y:=y) l
  rw[BF]
  have e:(if c n k=true then (n,NameKind.cell) else (n,k))=(n,if c n k=true then NameKind.cell else k):=by split <;> rfl
  show List.lookup y ((if c n k=true then (n,NameKind.cell) else (n,k)) :: _)=_
  rw[e,Et,Et]
  cases hx:(y == n) with
  | true =>
   have en:y=n:=eq_of_beq hx
   subst en
   rfl
  | false=>exact ih
def blk (X:Cx)(sc:Scope)(cl:List (Str×Addr))(C:Addr)(N':List Str)(s:A1)(H:Hp)(fp:List Addr):Cx :=
 { X with N:=N',s₀:=s,H₀:=H,env:=compEnvC sc cl C X.env,outer:=X.stack,ex:=fp,fn:=λ_=>false,pn:=[],xe:=λ_ _=>False }
def PF (X:Cx)(ifs:List Expr)(t:TT):Prop :=
  ∀(pins:List (Addr×Obj)) (s:A1) (σ:St) (H:Hp) (Q:Bool->Hp->Prop),Inv X pins σ H s->t σ H Q →
    Bv (BJ X.prog X.w) X.A (forIn ifs true λc r=>if r=true then do let ok ← isTrue c X.env (eval c X.env);pure (ForInStep.yield ok) else pure (ForInStep.yield r)) (TP X pins σ Q) X.xe s
theorem fR {X:Cx}:PF X [] (λ_ H Q=>Q true H):=λ_ _ _ H _ I h=>wpAny_tests_nil ⟨H,I,h⟩
theorem cN {X:Cx}{c:Expr}{t:TT}(h:PT X c t):PF X [c] t:=λpins s σ H Q I q=>wpAny_tests_one (h pins s σ H Q I q)
def inner (ix:List (Option Nat))(σ:St):St:=ix.map λo=>match o with | none=>none | some j=>(σ[j]?).join
def o7 (J:It)(g:TG)(tc:TT)(te:TE)(τ:St)(Q:VK)(H1:Hp):Prop:=∃W:Nat->Nat->St->List V->Hp->Prop,(∃m,W 0 m τ [] H1)/\∀i m τ ys H,W i m τ ys H →
 (J.stop i H/\ys.length<=Ba/\∀l,H l=none->Q (.ref l) (upd H l (.lst ys))) ∨
 (J.go i H/\∀x H',J.yld i H x H'->g x τ H' λτ2 H2=>tc τ2 H2 λb H3=>if b=true then te τ2 H3 λy H4=>ys.length<Ba/\∃m',m'<m/\W (i+1) m' τ2 (ys++[y]) H4 else ∃m',m'<m/\W (i+1) m' τ2 ys H3)
def vH (ix:List (Option Nat))(wi:TI)(g:TG)(tc:TT)(te:TE):TE:=λσ H Q=>wi σ H λJ H1=>o7 J g tc te (inner ix σ) Q H1
section
variable  {X:Cx}{sc:Scope}{N':List Str}{ix:List (Option Nat)}{pins:List (Addr×Obj)}{σ:St}{H:Hp}{s:A1}
theorem zy (I:Inv X pins σ H s)(K:kJ X.env.scope.names X.N sc N' ix){C:Addr}{fp:List Addr}(hC:s.heap.objs.size<=C)(f:∀b∈fp,nP X pins H b)(fl:∀b∈fp,b<s.heap.objs.size) :
  (blk X sc (aS X.env sc.names []) C N' s H fp).Ok:=by
 have hcl:∀y∈sc.names,y.2 = .free->∃c,X.env.cells.lookup y.1=some c:=λy hy e=>I.ok.has y.1 (K.frees y hy e)
 have up:∀y c,(aS X.env sc.names []).lookup y=some c->X.env.cells.lookup y=some c:=λy c e=>by
  rcases cP sc.names [] hcl e with q | q
  ·cases q
  ·exact q
 have nfs:∀b∈fp,b∉frs X.stack:=λb hb z=>by
  rcases Bs.mp (I.nN b z) with q | q
  ·exact (f b hb).2.1 q
  ·exact (f b hb).2.2.1 q
 refine ⟨I.ok.mod,K.kind,I.ok.glob,I.ok.blt,hC,λy z c h1 h2=>I.ok.inj y z c (up _ _ h1) (up _ _ h2),λy hy =>?_,(λy c h=>nomatch h),I.ok.hd,I.ok.frames,.inl rfl,λb hb =>?_,λb o e=>I.bs b o e,BL I.ok.bsz I.sz,λb o e hb =>?_,nfs,I.stack,I.rL⟩
 ·have hy':(relabel sc X.env).names.lookup y=some .cell\/(relabel sc X.env).names.lookup y=some .free:=hy
  have em:=kK (c:=λn k=>k == .free && X.env.scope.kind == .function && X.env.kindOf n == some .cell) (y:=y) sc.names
  have em':(relabel sc X.env).names.lookup y=_:=em
  rw[em'] at hy'
  cases hq:sc.names.lookup y with
  | none=>rw[hq] at hy';rcases hy' with q | q <;> cases q
  | some k =>
   have km:=jT hq
   have hk:k = .free:=by
    rw[hq] at hy'
    simp only[GK,Option.some.injEq] at hy'
    by_cases hc:(k == .free && X.env.scope.kind == .function && X.env.kindOf y == some .cell)=true
    ·rw[Cv,Cv] at hc
     exact by simpa using hc.1.1
    ·rw[if_neg hc] at hy'
     rcases hy' with q | q
     ·exact absurd q (K.nocell _ km)
     ·exact q
   subst hk
   exact eY sc.names [] (.inl km)
 ·exact ⟨Bz (Bm (fl b hb) hC),λy c e=>(f b hb).2.2.2.2.1 y c (up y c e)⟩
 ·rcases (f b hb).2.2.2.1 with q | q
  ·exact I.ok.noex b o e q
  ·exact absurd (Bm (Bc e) (BL I.ok.bsz q)) (Cp _)
theorem xx (I:Inv X pins σ H s)(K:kJ X.env.scope.names X.N sc N' ix){C:Addr}{fp:List Addr}(hC:s.heap.objs.size<=C)(f:∀b∈fp,nP X pins H b)(fl:∀b∈fp,b<s.heap.objs.size)
  {h1:Heap} {t:Nat} {m:Str->Option AS} (k:∀b o,s.heap.get? b=some o->h1.get? b=some o) (ns:h1.Ns C m) :
  Inv (blk X sc (aS X.env sc.names []) C N' s H fp) [] (inner ix σ) H { s with heap:=h1,toks:=t }:=by
 have hcl:∀y∈sc.names,y.2 = .free->∃c,X.env.cells.lookup y.1=some c:=λy hy e=>I.ok.has y.1 (K.frees y hy e)
 have up:∀y c,(aS X.env sc.names []).lookup y=some c->X.env.cells.lookup y=some c:=λy c e=>by
  rcases cP sc.names [] hcl e with q | q
  ·cases q
  ·exact q
 refine ⟨zy I K hC f fl,rfl,I.bare,Un.kept k,⟨m,ns,λi y v e1 e2 e3 =>?_⟩,λy c e =>?_,I.hok.fresh hC,λy c e=>I.freeC y c (up y c e),(λp hp=>nomatch hp),I.hok.kept k,?_⟩
 ·have e2':(ix.map λo=>match o with | none=>none | some j=>(σ[j]?).join)[i]? = some (some v):=e2
  rw[A4] at e2'
  cases hi:ix[i]? with
  | none=>rw[hi] at e2';cases e2'
  | some o =>
   cases o with
   | none=>rw[hi] at e2';cases e2'
   | some j =>
    rw[hi] at e2'
    have e4:(σ[j]?).join=some v:=BC e2'
    have e5:σ[j]? = some (some v):=by
     cases hj:σ[j]? with
     | none=>rw[hj] at e4;cases e4
     | some z=>rw[hj] at e4;rw[show z=some v from e4]
    obtain ⟨n1,n2⟩:=K.slot i j y hi e1
    have mem:=jT n2
    have kc:X.env.kindOf y=some .cell\/X.env.kindOf y=some .free:=K.frees _ mem rfl
    obtain ⟨m',_,hl⟩:=I.loc
    obtain ⟨u,r,l⟩:=hl j y v n1 e5 (.inr kc)
    refine ⟨u,r,?_⟩
    rcases l with ⟨q,_⟩ | ⟨_,c,q,z⟩
    ·rcases kc with kc | kc <;> (rw[kc] at q;cases q)
    ·obtain ⟨c',hc'⟩:=eY (env:=X.env) (y:=y) sc.names [] (.inl mem)
     have:=up y c' hc'
     rw[q] at this
     cases this
     refine .inr ⟨?_,c,hc',z.keeps k⟩
     have em:=kK (c:=λn k=>k == .free && X.env.scope.kind == .function && X.env.kindOf n == some .cell) (y:=y) sc.names
     have em':(relabel sc X.env).names.lookup y=_:=em
     rcases kc with kc | kc
     ·left
      show (relabel sc X.env).names.lookup y=some .cell
      rw[em',n2]
      simp only[GK,kc,I.ok.kind]
      rfl
     ·right
      show (relabel sc X.env).names.lookup y=some .free
      rw[em',n2]
      simp only[GK,kc,I.ok.kind]
      rfl
 ·obtain ⟨v,z⟩:=I.cell y c (up y c e)
  exact ⟨v,z.keeps k⟩
 ·show (ix.map _).length=N'.length
  rw[AN]
  exact K.len
end
open PySem PySem.Spec PyProof.Rows
theorem qA {prog:Bi}{w:BQ}{A:Cc}{R:Result->A1->Prop}{s:A1}{elt target iter:Expr}{ifs:List Expr}{sc:Scope}{pos:Pos}{it acc:AS}{env:Env}(J:Nat->A1->Prop)
    (turn:∀n s,J n s->Bv (BJ prog w) A (pyNext it) (λr s1=>match r with
      | none=>R (.ok .next) s1
      | some v=>Bv (BJ prog w) A (letOwnedTupleGo target it v) (λ_ s2=>Bv (BJ prog w) A (assign target env v) (λ_ s3 =>
          Bv (BJ prog w) A (forIn ifs true λc r=>if r=true then do let ok ← isTrue c env (eval c env);pure (ForInStep.yield ok) else pure (ForInStep.yield r)) (λok s4 =>
            if ok=true then Bv (BJ prog w) A (eval elt env) (λx s5=>Bv (BJ prog w) A (call (.builtin "list.append") [acc,x]) (λ_ s6=>∃m,m<n/\J m s6) (λ_ _=>False) s5) (λ_ _=>False) s4
            else ∃m,m<n/\J m s4) (λ_ _=>False) s3) (λ_ _=>False) s2) (λ_ _=>False) s1) (λ_ _=>False) s)
    (n:Nat) (h:J n s):Ff (BJ prog w) A (.compLoop (.ListComp elt [⟨target,iter,ifs,0⟩] sc pos) 0 it acc env) R s:=by
  refine codeAny_loop rfl J (λk t q =>?_) n h
  show Bv _ A (Sem.onRaise (compTurn (.ListComp elt [⟨target,iter,ifs,0⟩] sc pos) 0 it acc env) (λx=>do noteFrame x env;theTreesLotGoes x)) _ _ t
  refine wpAny_noted ?_
  rw[compTurn_list]
  have no:∀{E:AS->A1->Prop} (x:AS) (t:A1),False->E x t:=λ_ _ z=>z.elim
  refine AO (Fx (AO (DF (turn k t q) (λr s1 h1 =>?_) no)))
  cases r with
  | none=>exact AV h1
  | some v =>
    refine AO (DF h1 (λ_ s2 h2=>AO (DF h2 (λ_ s3 h3=>AO (DF h3 (λok s4 h4 =>?_) no)) no)) no)
    cases ok with
    | false=>exact AV ⟨rfl,h4⟩
    | true=>exact AO (AO (DF h4 (λx s5 h5=>AO (DF h5 (λ_ s6 h6=>AV (AV ⟨rfl,h6⟩)) no)) no))
section
variable  {X:Cx}
def xy (X:Cx)(pins:List (Addr×Obj))(σ:St)(Q:VK)(use:Option (AS->Sem Unit))(Q2:AS->A1->Prop):Prop :=
 ∀(s4:A1) (H3:Hp) (acc C:Addr) (ys:List V) (oC:Obj),Inv X (pins++[(C,oC)]) σ (upd H3 acc (.lst ys)) s4->(∃m,s4.heap.Ns C m)->X.s₀.heap.objs.size<=C->(∀x c,X.env.cells.lookup x=some c->c≠C)->(∀p∈X.pn++pins,p.1≠C)->Q (.ref acc) (upd H3 acc (.lst ys)) →
  compPost (BJ X.prog X.w) X.A X.xe use Q2 (.ref acc) C (.ok .next) s4
theorem mU {elt target iter:Expr}{ifs:List Expr}{sc:Scope}{pos ps:Pos}{wi:TI}{g:TG}{tc:TT}{te:TE}{N':List Str}{ix:List (Option Nat)}{use:Option (AS->Sem Unit)}{Q2:AS->A1->Prop}
  {pins:List (Addr×Obj)} {s:A1} {σ:St} {H:Hp} {Q:VK}
  (hcalm:X.calm=true) (hi:PI X target iter wi) (hk:o6 X.env.scope.names X.N sc N' ix=true)
  (hg:∀cl C s H fp,PG (blk X sc cl C N' s H fp) target g) (hc:∀cl C s H fp,PF (blk X sc cl C N' s H fp) ifs tc) (he:∀cl C s H fp,PE (blk X sc cl C N' s H fp) elt te)
  (hs:∀x,foldedSetIterable iter X.env x=pure x) (fin:xy X pins σ Q use Q2) (I:Inv X pins σ H s) (h:vH ix wi g tc te σ H Q) :
  Bv (BJ X.prog X.w) X.A (comprehension (.ListComp elt [⟨target,iter,ifs,0⟩] sc pos) sc X.env ps (newList []) false (eval iter X.env) use) Q2 X.xe s:=by
 have K:=kJ.of hk
 have hcl:∀y∈sc.names,y.2 = .free->∃c,X.env.cells.lookup y.1=some c:=λy hy e=>I.ok.has y.1 (K.frees y hy e)
 refine wpAny_comprehension_free rfl hs (qz hcl) K.kind K.locs (thn (hi pins s σ H _ I h) λv s1 h1=>thn h1 λitv s2 h2 =>?_)
 obtain ⟨it,fp,tn,J,H2,e,I2,T,st2,f2,W,⟨m0,w0⟩,turn⟩:=h2
 subst e
 refine B9 (wpAny_newFunctionEnv K.nocell (by intro y hy;simp at hy) (λh1 ns1 sb1 =>?_) K.kind)
 dsimp only at ns1 sb1 ⊢
 generalize hP:s2.heap.push { cls :=.type "list",dict:=none,data :=.seq ([]:List AS).toArray }=G at ns1 sb1 ⊢
 have sG:G.objs.size=s2.heap.objs.size+1:=by rw[<- hP,DC]
 have fl:∀b∈fp,b<s2.heap.objs.size:=λb hb=>by
  obtain ⟨o,e,_⟩:=T.obj _ _ st2 b hb
  exact Bc e
 have hC:s2.heap.objs.size<=G.objs.size:=by rw[sG];exact Gg _
 have aC:s2.heap.objs.size≠G.objs.size:=by rw[sG];exact Bz (CZ _)
 have old:∀b o,s2.heap.get? b=some o->h1.get? b=some o:=λb o e=>by
  have lt:=Bc e
  have ne:b≠G.objs.size:=Bz (Bm lt hC)
  rw[sb1.2 b ne]
  exact AU _ (hP ▸ AU _ e)
 have accO:h1.PlainList s2.heap.objs.size #[]:=⟨_,by
  rw[sb1.2 _ aC]
  exact AU _ (hP ▸ Bd _ rfl)⟩
 have IB:=xx (t:=s2.toks+([]:List (Str×AS)).length) I2 K hC f2 fl old ns1
 have up:∀y c,(aS X.env sc.names []).lookup y=some c->X.env.cells.lookup y=some c:=λy c e=>by
  rcases cP sc.names [] hcl e with q | q
  ·cases q
  ·exact q
 have accNotCell:∀y c,(aS X.env sc.names []).lookup y=some c->c≠s2.heap.objs.size:=λy c e z=>by
  obtain ⟨v,q⟩:=I2.cell y c (up y c e)
  exact absurd q.lt (by rw[z];exact Cp _)
 have accFs:s2.heap.objs.size∉frs X.stack:=λz=>by
  rcases Bs.mp (I2.nN _ z) with q | q
  ·exact absurd I2.lt (by rw[<- q];exact Cp _)
  ·exact I2.yY (AY _) q
 have accFp:s2.heap.objs.size∉fp:=λz=>absurd (fl _ z) (Cp _)
 have stat:∀{H':Hp} {ob:Obj},(∀b∈fp,H' b=none)->∀b∈fp,nP (blk X sc (aS X.env sc.names []) G.objs.size N' s2 H2 fp) [(s2.heap.objs.size,ob)] H' b:=λ{H' ob} hn b hb=>by
  refine ⟨hn b hb,Bz (Bm (fl b hb) hC),IB.ok.exfs b hb,.inl hb,λy c e=>(f2 b hb).2.2.2.2.1 y c (up y c e),λp hp z =>?_⟩
  have ep:p=(s2.heap.objs.size,ob):=by simpa [blk] using hp
  subst ep
  exact accFp (by rw[show s2.heap.objs.size=b from z];exact hb)
 have accPin:∀{pl:List (Addr×Obj)} {σ':St} {H':Hp} {s':A1} {its:Array AS} {n:Nat},Inv (blk X sc (aS X.env sc.names []) G.objs.size N' s2 H2 fp) pl σ' H' s'->s'.heap.get? s2.heap.objs.size=some { cls :=.type "list",data :=.seq its n } →
   H' s2.heap.objs.size=none->Inv (blk X sc (aS X.env sc.names []) G.objs.size N' s2 H2 fp) [(s2.heap.objs.size,{ cls :=.type "list",data :=.seq its n })] σ' H' s':=λ{pl σ' H' s' its n} J' e nn=>J'.iB λp hp=>by
  have ep:p=(s2.heap.objs.size,({ cls :=.type "list",data :=.seq its n }:Obj)):=by simpa [blk] using hp
  subst ep
  exact ⟨e,nn,aC,accFs,λv z=>nomatch z⟩
 have loop:Ff (BJ X.prog X.w) X.A (.compLoop (.ListComp elt [⟨target,iter,ifs,0⟩] sc pos) 0 (.ref it) (.ref s2.heap.objs.size) (compEnvC sc (aS X.env sc.names []) G.objs.size X.env))
   (compPost (BJ X.prog X.w) X.A X.xe use Q2 (.ref s2.heap.objs.size) G.objs.size) { s2 with heap:=h1,toks:=s2.toks+([]:List (Str×AS)).length }:=by
  refine qA (λn s'=>∃i ys its nn σ' H',Inv (blk X sc (aS X.env sc.names []) G.objs.size N' s2 H2 fp) [(s2.heap.objs.size,{ cls :=.type "list",data :=.seq its nn })] σ' H' s'/\Vals ys its.toList/\tn i s'.heap/\(∀b∈fp,H' b=none)/\W i n σ' ys H')
   (λn s3 h3 =>?_) m0 ?_
  ·obtain ⟨i,ys,its,nn,σ3,H3,I3,r3,st3,fr3,w3⟩:=h3
   obtain ⟨e3,a3,_,_,_⟩:=I3.pin (s2.heap.objs.size,{ cls :=.type "list",data :=.seq its nn }) (by simp[blk])
   rcases turn i n σ3 ys H3 w3 with ⟨stop,zl,q3⟩ | ⟨go,step⟩
   ·refine thn (T.done (blk X sc (aS X.env sc.names []) G.objs.size N' s2 H2 fp) rfl rfl rfl hcalm i _ s3 σ3 H3 _ I3 (stat fr3) st3 stop) λr s4 ⟨hr,I4⟩ =>?_
    subst hr
    obtain ⟨e4,a4,_,_,_⟩:=I4.pin (s2.heap.objs.size,{ cls :=.type "list",data :=.seq its nn }) (by simp[blk])
    obtain ⟨m4,n4,_⟩:=I4.loc
    obtain ⟨oC,es4,ep4,c4,d4,r4⟩:=id n4
    have ltA:∀b o,s2.heap.get? b=some o->b≠s2.heap.objs.size:=λb o e=>Bz (Bc e)
    have B:=I4.base
    have hok:HOk X.prog X.w (upd H3 s2.heap.objs.size (.lst ys)) s4.heap:=λb o e=>by
     by_cases hb:b=s2.heap.objs.size
     ·subst hb
      rw[ae] at e
      cases e
      exact ⟨zl,its.toList,nn,r3,e4⟩
     ·rw[aj hb] at e
      refine (I4.hok b o e).stay (λc u hc q=>q) (λc q =>?_) (λc xs q =>?_)
      ·rw[aj (aq q a4)];exact q
      ·rw[aj (aq q a4)];exact q
    have I5:Inv X pins σ (upd H3 s2.heap.objs.size (.lst ys)) s4:=by
     refine I2.z3 (ch:=fp) I4.os ⟨λb o e n hb hx=>B.keep b o e n hb hx,λb o e n hb hx=>B.slot b o e n hb hx,λb o e n hx =>?_,λb o e hx=>B.there b o e hx,λb xs e =>?_,λb o u e =>?_,λb ps e =>?_⟩ hok I4.bare (λb hb =>?_)
     ·rw[aj (ltA b o e)];exact B.free b o e n hx
     ·have q:=B.tups b xs e
      rw[aj (aq q a4)];exact q
     ·have q:=B.frzs b o u e
      rw[aj (aq q a4)];exact q
     ·obtain ⟨more,q⟩:=B.tbls b ps e
      exact ⟨more,by rw[aj (aq q a4)];exact q⟩
     ·obtain ⟨g0,g1,g2,g3,g4,g5⟩:=f2 b hb
      exact ⟨g3,g1,g4,g5⟩
    have cL:G.objs.size≠X.env.locals:=D5 (Bm I2.lt hC)
    have I6:Inv X (pins++[(G.objs.size,oC)]) σ (upd H3 s2.heap.objs.size (.lst ys)) s4:=I5.iB λp hp=>by
     rcases A7.mp hp with q | q
     ·exact I5.pin p (Bn _ q)
     ·have ep:p=(G.objs.size,oC):=by simpa using q
      subst ep
      exact ⟨c4,by rw[aj (C7 aC)];exact I4.free,cL,I2.yY hC,λv z=>by rw[d4] at z;cases z⟩
    refine fin s4 H3 s2.heap.objs.size G.objs.size ys oC I6 ⟨m4,n4⟩ (BL I2.sz hC) (λy c e z =>?_) (λp hp z =>?_) (q3 _ a4)
    ·obtain ⟨v,q⟩:=I2.cell y c e
     exact absurd (Bm q.lt hC) (by rw[z];exact Cp _)
    ·exact absurd (Bm (Bc (I2.pin p hp).1) hC) (by rw[z];exact Cp _)
   ·refine thn (T.item (blk X sc (aS X.env sc.names []) G.objs.size N' s2 H2 fp) rfl rfl rfl hcalm i _ s3 σ3 H3 _ I3 (stat fr3) st3 go) λr s4 ⟨u,hr,h4⟩ =>?_
    subst hr
    refine thn h4 λ_ s5 ⟨x,H5,I5,r5,y5,st5,fr5⟩ =>?_
    have I5':=I5.pinned (stat fr5) (T.obj _ _ st5)
    refine thn (hg _ _ _ _ _ _ s5 σ3 H5 x u _ I5' r5 (step x H5 y5)) λ_ s6 ⟨σ6,H6,I6,q6⟩ =>?_
    refine thn (hc _ _ _ _ _ _ s6 σ6 H6 _ I6 q6) λok s7 ⟨H7,I7,q7⟩ =>?_
    have back:∀{σ7:St} {H7:Hp} {s7:A1},Inv (blk X sc (aS X.env sc.names []) G.objs.size N' s2 H2 fp) ([(s2.heap.objs.size,{ cls :=.type "list",data :=.seq its nn })]++hW fp s5.heap) σ7 H7 s7->tn (i+1) s7.heap/\∀b∈fp,H7 b=none:=λJ7 =>
     ⟨T.keep _ _ _ st5 λb hb o e=>(J7.pin (b,o) (Bn _ (Bn _ (cY hb e)))).1,λb hb=>by
      obtain ⟨o,e,d⟩:=T.obj _ _ st5 b hb
      exact (J7.pin (b,o) (Bn _ (Bn _ (cY hb e)))).2.1⟩
    cases ok with
    | false =>
     rw[if_neg (by decide)] at q7
     obtain ⟨m',lm,w7⟩:=q7
     show ∃m,m<n/\_
     exact ⟨m',lm,i+1,ys,its,nn,σ6,H7,I7.dW,r3,(back I7).1,(back I7).2,w7⟩
    | true =>
     rw[if_pos rfl] at q7
     refine thn (he _ _ _ _ _ _ s7 σ6 H7 _ I7 q7) λz s8 ⟨y,H8,I8,r8,lz,m',lm,w8⟩ =>?_
     obtain ⟨e8,a8,_,_,_⟩:=I8.pin (s2.heap.objs.size,{ cls :=.type "list",data :=.seq its nn }) (by simp[blk])
     have sz:its.size<=Ba:=by
      have l:ys.length=its.size:=r3.length.trans A5
      rw[<- l]
      exact CK lz
     refine wpAny_list_append_plain ⟨nn,e8⟩ (λh' pl' sb' =>?_) sz
     obtain ⟨n9,e9⟩:=pl'
     have I8p:Inv (blk X sc (aS X.env sc.names []) G.objs.size N' s2 H2 fp) (hW fp s5.heap) σ6 H8 s8:=I8.iB λp hp=>I8.pin p (Bn _ (Bn _ hp))
     have I9:=I8p.turned (it:=s2.heap.objs.size) (h':=h') (t':=s8.toks) (λb o ne e=>by rw[sb'.2 b ne];exact e) a8 aC (.inr (AY _)) (λy c e=>accNotCell y c e) (λp hp z=>by
      have hp':p∈hW fp s5.heap:=by simpa [blk] using hp
      exact accFp (by rw[<- z];exact (mJ hp').1))
     have b9:tn (i+1) h'/\∀b∈fp,H8 b=none :=
      ⟨T.keep _ _ _ st5 λb hb o e=>(I9.pin (b,o) (Bn _ (cY hb e))).1,(back I8).2⟩
     exact ⟨m',lm,i+1,ys++[y],its.push z,n9,σ6,H8,accPin I9 e9 a8,by rw[Dl];exact r3.append (.cons r8 .nil),b9.1,b9.2,w8⟩
  ·obtain ⟨n0,e0⟩:=accO
   exact ⟨0,[], #[],n0,_,H2,accPin IB e0 (I2.hok.fresh (AY _)),.nil,T.keep _ _ _ st2 λb hb o e=>old b o e,λb hb=>(f2 b hb).1,w0⟩
 exact codeAny_compStart_list loop (T.self _ 0 _ _ _ (T.keep _ _ _ st2 λb hb o e=>old b o e) loop)
theorem bF {elt target iter:Expr}{ifs:List Expr}{sc:Scope}{pos:Pos}{wi:TI}{g:TG}{tc:TT}{te:TE}(N':List Str)(ix:List (Option Nat))
  (hcalm:X.calm=true) (hi:PI X target iter wi) (hk:o6 X.env.scope.names X.N sc N' ix=true)
  (hg:∀cl C s H fp,PG (blk X sc cl C N' s H fp) target g) (hc:∀cl C s H fp,PF (blk X sc cl C N' s H fp) ifs tc) (he:∀cl C s H fp,PE (blk X sc cl C N' s H fp) elt te)
  (hs:∀x,foldedSetIterable iter X.env x=pure x:=by intro _;rfl):PE X (.ListComp elt [⟨target,iter,ifs,0⟩] sc pos) (vH ix wi g tc te):=by
 intro pins s σ H Q I h
 rw[eval_ListComp]
 refine mU hcalm hi hk hg hc he hs (λs4 H3 acc C ys oC I4 ns hC hc hp q =>?_) I h
 obtain ⟨m,ns⟩:=ns
 refine ⟨m,ns,λh' sb=>⟨.ref acc,_,?_,rfl,q⟩⟩
 obtain ⟨_,n0,n1,n2,_⟩:=I4.pin (C,oC) (by simp)
 exact (I4.dW).turned (it:=C) (h':=h') (t':=s4.toks) (λb o ne e=>by rw[sb.2 b ne];exact e) n0 n1 (.inr hC) hc hp
theorem eZ {elt target iter:Expr}{ifs:List Expr}{sc:Scope}{pos pos' spos:Pos}{wi:TI}{g:TG}{tc:TT}{te:TE}{i:Nat}{x:Str}(N':List Str)(ix:List (Option Nat))
    (hcalm:X.calm=true) (hN:X.N.Nodup) (hx:X.N[i]? = some x) (hl:X.env.scope.names.lookup x=some .local)
    (hi:PI X target iter wi) (hk:o6 X.env.scope.names X.N sc N' ix=true)
    (hg:∀cl C s H fp,PG (blk X sc cl C N' s H fp) target g) (hc:∀cl C s H fp,PF (blk X sc cl C N' s H fp) ifs tc) (he:∀cl C s H fp,PE (blk X sc cl C N' s H fp) elt te)
    (hsw:swapsWith (.ListComp elt [⟨target,iter,ifs,0⟩] sc pos) (some (.Name x pos')) spos.line X.env=pure true:=by rfl)
    (hs:∀x,foldedSetIterable iter X.env x=pure x:=by intro _;rfl):PS X (.Assign [.Name x pos'] (.ListComp elt [⟨target,iter,ifs,0⟩] sc pos) spos) (zd (vH ix wi g tc te) (gY i)):=by
  intro pins s σ H D I h
  rw[exec_Assign_Name_used _ _ _ _ hsw]
  refine AO (Fx (AO ?_))
  show Bv _ X.A (do let _ ← comprehension (.ListComp elt [⟨target,iter,ifs,0⟩] sc pos) sc X.env _ (newList []) false (eval iter X.env) (some (assign (.Name x pos') X.env))) _ _ s
  refine AO (DF (mU (Q:=λv H1=>D.nx (σ.set i (some v)) H1) (Q2:=λ_ s'=>SP X pins D .next s') hcalm hi hk hg hc he hs (λs4 H3 acc C ys oC I4 ns hC hc hp q =>?_) I h) (λ_ s' q=>AV (AV q)) λ_ _ e=>e)
  obtain ⟨m,ns⟩:=ns
  obtain ⟨e0,n0,n1,n2,_⟩:=I4.pin (C,oC) (by simp)
  show Bv _ X.A (assign (.Name x pos') X.env (.ref acc)) _ _ s4
  refine thn ((aJ (i:=i) hN hx (.inl hl) (.inr hl)) (pins++[(C,oC)]) s4 σ _ (.ref acc) (.ref acc) _ I4 rfl q) λ_ s5 ⟨σ5,H5,I5,q5⟩ =>?_
  obtain ⟨e5,k0,k1,k2,_⟩:=I5.pin (C,oC) (by simp)
  obtain ⟨o',es',ep',c',r'⟩:=ns
  have e':=e0.symm.trans c'
  cases e'
  refine ⟨m,⟨_,es',ep',e5,r'⟩,λh' sb=>⟨σ5,H5,?_,q5⟩⟩
  exact (I5.dW).turned (it:=C) (h':=h') (t':=s5.toks) (λb o ne e=>by rw[sb.2 b ne];exact e) k0 k1 (.inr hC) hc hp
end
open PySem PySem.Spec PyProof.Rows
section
variable  {X:Cx}
def Au (K:A0):R2:=λx y H Q=>∃l b xs zs,x = .ref l/\y = .ref b/\SqL K H l xs/\SqL K H b zs/\xs.length+zs.length<=Ba/\∀p,H p=none->Q (.ref p) (upd H p (.lst (xs++zs)))
theorem xA:OpR X (binaryOp .Add) (Au X.K):=by
 intro pins s σ H x y v u Q I rx ry h
 obtain ⟨l,b,xs,zs,rfl,rfl,hH,hB,hz,q⟩:=h
 cases rx
 cases ry
 obtain ⟨its,r,e,z⟩:=I.list hH
 obtain ⟨its2,r2,e2,z2⟩:=I.list hB
 obtain ⟨⟨c1,d1,da1,sl1⟩,n,e,k1,k2,k3⟩:=e
 obtain ⟨⟨c2,d2,da2,sl2⟩,n2,e2,g1,g2,g3⟩:=e2
 simp only at k1 k3 g1 g3
 subst k1 k3 g1 g3
 have l1:=r.length
 have l2:=r2.length
 have ea:its.toArray++its2.toArray=(its++its2).toArray:=by simp
 refine GY ⟨_,e,rfl⟩ ⟨_,e2,rfl⟩ noFill_list_add seq_list_add PySem.F.slot_list_add PySem.F.entry_list_add
  (PySem.F.args_list_add_2 _ _) (list_addW l b its.toArray its2.toArray n n2 d1 d2 sl1 sl2 (by rw[AX,AX];omega)) ⟨e,e2,?_⟩
 rw[ea]
 exact ⟨.ref _,_,I.lnew (t':=s.toks) (r.append r2) (by rw[AR];omega),rfl,q _ I.fresh⟩
theorem ck:bK X (.builtin "isinstance") (λxs H Q=>∃x T t b,xs=[x,.ty T]/\jm X.K H x t/\PySem.W.kitOne X.K t (.type T)=some b/\Q (.bl b) H):=by
 intro pins s σ H xs us Q I r h
 obtain ⟨x,T,t,b,rfl,ty,e,q⟩:=h
 obtain ⟨u,w',rfl,ru,rw'⟩:=vals2 r
 cases (show w'=DH T from rw')
 exact t6 I ru ty e λtk=>⟨.bl b,H,I.tok tk,rfl,q⟩
end
def vI (k:Nat)(tc:TT)(te:TE)(τ:St)(Pv:Nat->List V->Hp->Prop)(i:Nat)(x:V)(ys:List V)(H:Hp):Prop :=
 ∀(R1:V->Hp->Prop) (R0:Hp->Prop),(∀y H4,Pv (i+1) (ys++[y]) H4->R1 y H4)->(∀H3,Pv (i+1) ys H3->R0 H3)->tc (τ.set k (some x)) H λb H3=>if b=true then te (τ.set k (some x)) H3 R1 else R0 H3
theorem fe {K:A0}{a:Addr}{xs:List V}{k:Nat}{tc:TT}{te:TE}{τ:St}{H:Hp}{Q:VK}(Pv:Nat->List V->Hp->Prop)(h0:Pv 0 [] H)(hz:xs.length<=Ba)
  (hl:∀i ys H,i<=xs.length->Pv i ys H->SqL K H a xs) (hs:∀i x ys H,xs[i]? = some x->ys.length<=i->Pv i ys H->vI k tc te τ Pv i x ys H)
  (hd:∀ys H,ys.length<=xs.length->Pv xs.length ys H->∀l,H l=none->Q (.ref l) (upd H l (.lst ys))) :
  o7 (Itl K a) (gY k) tc te τ Q H:=by
 refine ⟨λi m σ ys H=>m=xs.length-i/\i<=xs.length/\(∀x,σ.set k (some x)=τ.set k (some x))/\ys.length<=i/\Pv i ys H,⟨xs.length,by simp,BX _,λ_=>rfl,AY _,h0⟩,?_⟩
 rintro i m σ ys H ⟨rfl,hi,hτ,hy,p⟩
 have q:=hl i ys H hi p
 by_cases hlt:i<xs.length
 ·refine .inr ⟨⟨xs,xs[i],q,by simp[hlt]⟩,λx H' y =>?_⟩
  obtain ⟨e,y⟩:=y
  subst e
  show tc (σ.set k (some x)) _ _
  rw[hτ x]
  have hσ:∀z,(τ.set k (some x)).set k (some z)=τ.set k (some z):=λz=>by rw[FN]
  refine hs i x ys _ (y xs q) hy p _ _ (λy4 H4 p4=>⟨by lia,xs.length-(i+1),by lia,rfl,hlt,hσ,by rw[AR,Ca];lia,p4⟩) λH3 p3=>⟨xs.length-(i+1),by lia,rfl,hlt,hσ,by lia,p3⟩
 ·have e:i=xs.length:=by lia
  subst e
  exact .inl ⟨⟨xs,q,AY _⟩,by lia,hd ys H hy p⟩
theorem gC {K:A0}{a:Addr}{xs:List V}{k:Nat}{tc:TT}{te:TE}{τ:St}{H:Hp}{Q:VK}(Pv:Nat->List V->Hp->Prop)(h0:Pv 0 [] H)(hz:xs.length<=Ba)
  (hl:∀i ys H,i<=xs.length->Pv i ys H->SqT K H a xs) (hs:∀i x ys H,xs[i]? = some x->ys.length<=i->Pv i ys H->vI k tc te τ Pv i x ys H)
  (hd:∀ys H,ys.length<=xs.length->Pv xs.length ys H->∀l,H l=none->Q (.ref l) (upd H l (.lst ys))) :
  o7 (Itt K a) (gY k) tc te τ Q H:=by
 refine ⟨λi m σ ys H=>m=xs.length-i/\i<=xs.length/\(∀x,σ.set k (some x)=τ.set k (some x))/\ys.length<=i/\Pv i ys H,⟨xs.length,by simp,BX _,λ_=>rfl,AY _,h0⟩,?_⟩
 rintro i m σ ys H ⟨rfl,hi,hτ,hy,p⟩
 have q:=hl i ys H hi p
 by_cases hlt:i<xs.length
 ·refine .inr ⟨⟨xs,xs[i],q,by simp[hlt]⟩,λx H' y =>?_⟩
  obtain ⟨e,y⟩:=y
  subst e
  show tc (σ.set k (some x)) _ _
  rw[hτ x]
  have hσ:∀z,(τ.set k (some x)).set k (some z)=τ.set k (some z):=λz=>by rw[FN]
  refine hs i x ys _ (y xs q) hy p _ _ (λy4 H4 p4=>⟨by lia,xs.length-(i+1),by lia,rfl,hlt,hσ,by rw[AR,Ca];lia,p4⟩) λH3 p3=>⟨xs.length-(i+1),by lia,rfl,hlt,hσ,by lia,p3⟩
 ·have e:i=xs.length:=by lia
  subst e
  exact .inl ⟨⟨xs,q,AY _⟩,by lia,hd ys H hy p⟩
theorem cp {lo:Int}{n:Nat}{k:Nat}{tc:TT}{te:TE}{τ:St}{H:Hp}{Q:VK}(Pv:Nat->List V->Hp->Prop)(h0:Pv 0 [] H)(hz:n<=Ba)
  (hs:∀i ys H,i<n->ys.length<=i->Pv i ys H->vI k tc te τ Pv i (.int (lo+i)) ys H)
  (hd:∀ys H,ys.length<=n->Pv n ys H->∀l,H l=none->Q (.ref l) (upd H l (.lst ys))) :
  o7 (Itr lo n) (gY k) tc te τ Q H:=by
 refine ⟨λi m σ ys H=>m=n-i/\i<=n/\(∀x,σ.set k (some x)=τ.set k (some x))/\ys.length<=i/\Pv i ys H,⟨n,by simp,BX _,λ_=>rfl,AY _,h0⟩,?_⟩
 rintro i m σ ys H ⟨rfl,hi,hτ,hy,p⟩
 by_cases hlt:i<n
 ·refine .inr ⟨hlt,λx H' y =>?_⟩
  obtain ⟨e,y⟩:=y
  subst e y
  show tc (σ.set k (some (.int (lo+i)))) _ _
  rw[hτ]
  have hσ:∀z,(τ.set k (some (.int (lo+i)))).set k (some z)=τ.set k (some z):=λz=>by rw[FN]
  refine hs i ys _ hlt hy p _ _ (λy4 H4 p4=>⟨by lia,n-(i+1),by lia,rfl,hlt,hσ,by rw[AR,Ca];lia,p4⟩) λH3 p3=>⟨n-(i+1),by lia,rfl,hlt,hσ,by lia,p3⟩
 ·have e:i=n:=by lia
  subst e
  exact .inl ⟨AY _,by lia,hd ys H hy p⟩
structure Cal (P:Bi)(w:BQ)(K:A0)(mg:Str->Option AS)(base:Heap)(k:Nat)(x:Str)(ps:List Str)(sp:Sp):Prop where
 ex:∃f fd,bB P w K mg base CX0 k f fd ps sp/\mg x=some (.ref f)/\PySem.W.keepIn K (.ref f)=true/\Binds K fd ps []
theorem ax {X:Cx}{j k:Nat}{x:Str}{ps:List Str}{sp:Sp}{e:Expr}{es:List Expr}{t:TA}{p pos:Pos}(C:Cal X.prog X.w X.K X.mg X.base k x ps sp)(hr:cM j X.A)(hj:k<=j)(hg:Gl X x)(ha:PA X (e :: es) t)
  (hdb:(x == ("__debug__" : Str))=false:=by decide) (he:Cm (e :: es) X.env=(false,eval e X.env) :: Cm es X.env:=by rfl) (hpl:(E4 pos (Cm es X.env)).any (·.1)=false:=by rfl) :
  PE X (.Call (.Name x p) (e :: es) [] pos) (yz sp [] E0 t):=by
 obtain ⟨f,fd,F,m,kp,b⟩:=C.ex
 exact xk F (hr.mono hj) hg m kp b .nil As ha hdb he hpl
theorem ag {H:Hp}{p:Addr}(h:H p=none)(o:HO):ay H (upd H p o):=λb u q=>by rw[aj (aq q h)];exact q
theorem small {n:Nat}(h:n<=1000):n<=Ba:=CK (aY h)
open PySem PySem.Spec PyProof.Rows
section
variable  {X:Cx}
theorem o8 {its:List AS}{bs:List Bool}(h:Vals (bs.map V.bl) its){prog:Bi}{w:BQ}{A:Cc}:TruthOf prog w A (λi v=>its.toArray[i]? = some v) (λi=>bs.getD i false):=by
 intro i v s Q E hv q
 have l:=h.length
 rw[AN] at l
 have hi:i<its.length:=by
  rw[Cj] at hv
  exact (AW.mp hv).1
 have e:(bs.map V.bl)[i]? = some (.bl (bs.getD i false)):=by
  rw[A4,A6,AQ (by lia)]
  rfl
 obtain ⟨u,e1,e2⟩:=h.get e
 rw[Cj,e1] at hv
 have ev:u=v:=BC hv
 subst ev
 cases (show u=Value.bool _ from e2)
 exact C3 q
theorem all_range (bs:List Bool):((Bw bs.length).all λi=>bs.getD i false)=bs.all id:=by
 rw[C8,CD,CD]
 constructor
 ·intro h x hx
  obtain ⟨i,e⟩:=Bj.mp hx
  have hi:i<bs.length:=(AW.mp e).1
  have q:=h i (Cg.mpr hi)
  rw[A6,e] at q
  exact q
 ·intro h i hi
  have hi':=Cg.mp hi
  rw[A6,AQ hi']
  exact h _ (Dh hi')
theorem iI (hc:X.calm=true):bK X (.builtin "all") (λxs H Q=>∃(p:Addr) (bs:List Bool),xs=[.ref p]/\SqL X.K H p (bs.map V.bl)/\Q (.bl (bs.all id)) H):=by
 intro pins s σ H xs us Q I r h
 obtain ⟨p,bs,rfl,hs,q⟩:=h
 obtain ⟨u,rfl,ru⟩:=vals1 r
 cases (show u=Bl p from ru)
 obtain ⟨its,rv,pl,hz⟩:=I.list hs
 have l:=rv.length
 rw[AN] at l
 have hpl:p<s.heap.objs.size:=by obtain ⟨o,_,e,_⟩:=pl;exact Bc e
 refine call_all_walk (Fd pl.isList ?_)
 have hd:X.A.in1.handled=none:=I.ok.hd hc
 refine ⟨s.heap.objs.size,_,_,_,_,_,_,rfl,Ja hd s.heap.objs.size p (Bz hpl) its.toArray,⟨⟨_,Bd _ rfl,rfl,rfl⟩,?_⟩,o8 rv,λh' tk k =>?_⟩
 ·exact pl.isList.at λo e=>AU _ e
 ·have e:((Bw its.toArray.size).all λi=>bs.getD i false)=bs.all id:=by rw[AX, <- l,all_range]
  rw[e]
  refine ⟨.bl (bs.all id),H,I.kept (t':=tk) (λb o eb=>k b o ?_ (AU _ eb)),rfl,q⟩
  intro hb
  have:b=s.heap.objs.size:=by simpa using hb
  exact absurd (Bc eb) (by rw[this];exact Cp _)
theorem mV {α β:Type}{F:α -> β -> Prop}:∀{l:List α} {m:List β} {i:Nat} {x:α} {y:β},Paired F l m->l[i]? = some x->m[i]? = some y->F x y
 | _,_,0,_,_,.cons h _,e1,e2=>by simp at e1 e2;subst e1 e2;exact h
 | _,_,i+1,_,_,.cons _ t,e1,e2=>mV (i:=i) t (by simpa using e1) (by simpa using e2)
 | _,_,_,_,_,.nil,e1,_=>by simp at e1
theorem all_true (n:Nat):((Bw n).all λ_=>true)=true:=by simp
end
open PySem PySem.Spec PyProof.Rows
def yB (K:A0)(k l:Nat):TG:=z9 K 2 (vq (gY k) (vq (gY l) z8))
def Av (k l:Nat)(tc:TT)(te:TE)(τ:St)(Pv:Nat->List V->Hp->Prop)(i:Nat)(a b:V)(ys:List V)(H:Hp):Prop :=
 ∀(R1:V->Hp->Prop) (R0:Hp->Prop),(∀y H4,Pv (i+1) (ys++[y]) H4->R1 y H4)->(∀H3,Pv (i+1) ys H3->R0 H3)->tc ((τ.set k (some a)).set l (some b)) H λc H3=>if c=true then te ((τ.set k (some a)).set l (some b)) H3 R1 else R0 H3
open PySem PySem.Spec PyProof.Rows
section
variable  {X:Cx}{K:A0}
theorem iJ (h:X.K=K:=by rfl):IxR X (Ap K):=by subst h;exact cv
theorem cQ (h:X.K=K:=by rfl):IxR X (Aq K):=by subst h;exact aB
theorem js (h:X.K=K:=by rfl):OpR X (CP .In) (rIn K false):=by subst h;exact t9
theorem dY (h:X.K=K:=by rfl):OpR X (CP .NotIn) (rIn K true):=by subst h;exact iH
theorem ug (h:X.K=K:=by rfl):bK X (.builtin "len") (λxs H Q=>∃p ys,xs=[.ref p]/\(SqL K H p ys\/SqT K H p ys)/\Q (.int ys.length) H):=by subst h;exact aO
end
end L2
namespace Srt
open PySem PyProof.Rows
def gal:Bool->Bp->Array Bp->Nat->Nat->Nat->StateT BO Sem (Option Nat):=sortPriv% PySem.Builtin.gallop
def mLo:Array Bp->Array Bp->StateT BO Sem (Array Bp):=sortPriv% PySem.Builtin.mergeLo
def mHi:Array Bp->Array Bp->StateT BO Sem (Array Bp):=sortPriv% PySem.Builtin.mergeHi
def mAt:Nat->StateT BO Sem Bool:=sortPriv% PySem.Builtin.mergeAt
def yC:StateT BO Sem Unit:=sortPriv% PySem.Builtin.sortRuns
def zz:Nat->Nat->StateT BO Sem (Option Nat):=sortPriv% PySem.Builtin.countRun
def vJ:Nat->Nat->Nat->StateT BO Sem Bool:=sortPriv% PySem.Builtin.binarySort
theorem zA (lf:Bool)(ky:Bp)(ar:Array Bp)(bs n ht:Nat):gal lf ky ar bs n ht=(do
    let far (i:Nat):StateT BO Sem (Option Bool):=do
      let z ← elem' ar (bs+i)
      if lf then lt' z ky else return (← lt' ky z).map (!·)
    let mut la:=0;let mut of:=1
    let mut lo:=0;let mut hi:=0
    let some rt ← far ht | return none
    if rt then
      let mx:=n-ht
      for _ in [0:n] do
        if of≥mx then break
        let some mo ← far (ht+of)
          | return none
        if !mo then break
        la:=of;of:=2*of+1
      lo:=ht+la+1;hi:=ht+min of mx
    else
      let mx:=ht+1
      for _ in [0:n] do
        if of≥mx then break
        let some fd ← far (ht-of)
          | return none
        if fd then break
        la:=of;of:=2*of+1
      lo:=ht+1-min of mx;hi:=ht-la
    for _ in [0:n] do
      if lo≥hi then break
      let md:=lo+(hi-lo)/2
      let some mo ← far md | return none
      if mo then lo:=md+1 else hi:=md
    return some hi):=rfl
section
variable  {prog:Bi}{w:BQ}{A:Cc}{E:AS->A1->Prop}{s:A1}
theorem vK {lf:Bool}{ky:Bp}{ar:Array Bp}{bs n ht:Nat}{st:BO}{Q:Option Nat->BO->Prop}(p:Nat->Bool)
    (hf:∀i,i<n->∀(Q:Option Bool->BO->Prop),Q (some (p i)) st->wpS (BJ prog w) A E s (do let z ← elem' ar (bs+i);if lf then lt' z ky else return (← lt' ky z).map (!·)) Q st)
    (hp:∀i j,i<=j->j<n->p j=true->p i=true) (hh:ht<n)
    (h:∀k,k<=n->(∀i,i<k->p i=true)->(∀i,k<=i->i<n->p i=false)->Q (some k) st):wpS (BJ prog w) A E s (gal lf ky ar bs n ht) Q st:=by
  rw[zA]
  dsimp only
  refine Bg (hf ht hh _ ?_)
  dsimp only
  cases hr:p ht with
  | true =>
    rw[if_pos rfl]
    refine Bg (Dn (CC (I:=λx c st'=>st=st'/\∃la of,c=(none,la,of)/\la<of/\x+1<=of/\ht+la<n/\p (ht+la)=true)
      (Q:=λc st'=>st=st'/\∃la of,c=(none,la,of)/\la<of/\ht+la<n/\p (ht+la)=true/\(n-ht<=of\/(ht+of<n/\p (ht+of)=false))) ?step ?fin ⟨rfl,0,1,rfl,by lia,by lia,by lia,by simpa using hr⟩) ?post)
    case fin =>
      rintro c st' ⟨rfl,la,of,rfl,b1,b2,b3,b4⟩
      exact ⟨rfl,la,of,rfl,b1,b3,b4,.inl (by lia)⟩
    case step =>
      rintro x c st' _ hx ⟨rfl,la,of,rfl,b1,b2,b3,b4⟩
      dsimp only
      by_cases hge:of≥n-ht
      · rw[if_pos hge]
        exact Bq ⟨rfl,la,of,rfl,b1,b3,b4,.inl hge⟩
      · rw[if_neg hge]
        refine Bg (hf _ (by lia) _ ?_)
        dsimp only
        cases hm:p (ht+of) with
        | true =>
          simp only[CL,Bk,if_false]
          exact Bq ⟨rfl,of,2*of+1,rfl,by lia,by lia,by lia,hm⟩
        | false =>
          simp only[Hc,if_true]
          exact Bq ⟨rfl,la,of,rfl,b1,b3,b4,.inr ⟨by lia,hm⟩⟩
    case post =>
      rintro c st' ⟨rfl,la,of,rfl,b1,b3,b4,b5⟩
      have h1:(ht+la+1)<=(ht+min of (n-ht)):=by lia
      have h2:(ht+min of (n-ht))<=n:=by lia
      have h3:∀i,i<(ht+la+1)->p i=true:=λi hi=>hp i (ht+la) (by lia) b3 b4
      have h4:∀i,(ht+min of (n-ht))<=i->i<n->p i=false:=λi hi hn=>by
        rcases b5 with b5 | ⟨b5,b6⟩
        · lia
        · cases hpi:p i with
          | false=>rfl
          | true=>rw[hp (ht+of) i (by lia) hn hpi] at b6;cases b6
      dsimp only
      refine Bg (Dn (CC (I:=λx c st'=>st=st'/\∃lo hi,c=(none,lo,hi)/\lo<=hi/\hi<=n/\hi-lo<=n-x/\(∀i,i<lo->p i=true)/\(∀i,hi<=i->i<n->p i=false))
        (Q:=λc st'=>st=st'/\∃k,c=(none,k,k)/\k<=n/\(∀i,i<k->p i=true)/\(∀i,k<=i->i<n->p i=false)) ?step ?fin ⟨rfl,(ht+la+1),(ht+min of (n-ht)),rfl,h1,h2,by lia,h3,h4⟩) ?post)
      case fin =>
        rintro c st' ⟨rfl,lo,hi,rfl,a1,a2,a3,a4,a5⟩
        have e:lo=hi:=by lia
        subst e
        exact ⟨rfl,lo,rfl,a2,a4,a5⟩
      case post =>
        rintro c st' ⟨rfl,k,rfl,a2,a4,a5⟩
        exact Bq (h k a2 a4 a5)
      case step =>
        rintro x c st' _ hx ⟨rfl,lo,hi,rfl,a1,a2,a3,a4,a5⟩
        dsimp only
        by_cases hge:lo≥hi
        · rw[if_pos hge]
          have e:lo=hi:=by lia
          subst e
          exact Bq ⟨rfl,lo,rfl,a2,a4,a5⟩
        · rw[if_neg hge]
          refine Bg (hf _ (by lia) _ ?_)
          dsimp only
          cases hm:p (lo+(hi-lo)/2) with
          | true =>
            rw[if_pos rfl]
            exact Bq ⟨rfl,_,_,rfl,by lia,a2,by lia,λi hi'=>hp i _ (by lia) (by lia) hm,a5⟩
          | false =>
            rw[if_neg (by simp)]
            refine Bq ⟨rfl,_,_,rfl,by lia,by lia,by lia,a4,λi hi' hn =>?_⟩
            cases hpi:p i with
            | false=>rfl
            | true=>rw[hp _ i hi' hn hpi] at hm;cases hm
  | false =>
    rw[if_neg (by simp)]
    refine Bg (Dn (CC (I:=λx c st'=>st=st'/\∃la of,c=(none,la,of)/\la<of/\x+1<=of/\la<=ht/\p (ht-la)=false)
      (Q:=λc st'=>st=st'/\∃la of,c=(none,la,of)/\la<of/\la<=ht/\p (ht-la)=false/\(ht+1<=of\/(of<=ht/\p (ht-of)=true))) ?step ?fin ⟨rfl,0,1,rfl,by lia,by lia,by lia,by simpa using hr⟩) ?post)
    case fin =>
      rintro c st' ⟨rfl,la,of,rfl,b1,b2,b3,b4⟩
      exact ⟨rfl,la,of,rfl,b1,b3,b4,.inl (by lia)⟩
    case step =>
      rintro x c st' _ hx ⟨rfl,la,of,rfl,b1,b2,b3,b4⟩
      dsimp only
      by_cases hge:of≥ht+1
      · rw[if_pos hge]
        exact Bq ⟨rfl,la,of,rfl,b1,b3,b4,.inl hge⟩
      · rw[if_neg hge]
        refine Bg (hf _ (by lia) _ ?_)
        dsimp only
        cases hm:p (ht-of) with
        | true =>
          rw[if_pos rfl]
          exact Bq ⟨rfl,la,of,rfl,b1,b3,b4,.inr ⟨by lia,hm⟩⟩
        | false =>
          rw[if_neg (by simp)]
          exact Bq ⟨rfl,of,2*of+1,rfl,by lia,by lia,by lia,hm⟩
    case post =>
      rintro c st' ⟨rfl,la,of,rfl,b1,b3,b4,b5⟩
      have h1:(ht+1-min of (ht+1))<=(ht-la):=by lia
      have h2:(ht-la)<=n:=by lia
      have h3:∀i,i<(ht+1-min of (ht+1))->p i=true:=λi hi=>by
        rcases b5 with b5 | ⟨b5,b6⟩
        · lia
        · exact hp i (ht-of) (by lia) (by lia) b6
      have h4:∀i,(ht-la)<=i->i<n->p i=false:=λi hi hn=>by
        cases hpi:p i with
        | false=>rfl
        | true=>rw[hp (ht-la) i hi hn hpi] at b4;cases b4
      dsimp only
      refine Bg (Dn (CC (I:=λx c st'=>st=st'/\∃lo hi,c=(none,lo,hi)/\lo<=hi/\hi<=n/\hi-lo<=n-x/\(∀i,i<lo->p i=true)/\(∀i,hi<=i->i<n->p i=false))
        (Q:=λc st'=>st=st'/\∃k,c=(none,k,k)/\k<=n/\(∀i,i<k->p i=true)/\(∀i,k<=i->i<n->p i=false)) ?step ?fin ⟨rfl,(ht+1-min of (ht+1)),(ht-la),rfl,h1,h2,by lia,h3,h4⟩) ?post)
      case fin =>
        rintro c st' ⟨rfl,lo,hi,rfl,a1,a2,a3,a4,a5⟩
        have e:lo=hi:=by lia
        subst e
        exact ⟨rfl,lo,rfl,a2,a4,a5⟩
      case post =>
        rintro c st' ⟨rfl,k,rfl,a2,a4,a5⟩
        exact Bq (h k a2 a4 a5)
      case step =>
        rintro x c st' _ hx ⟨rfl,lo,hi,rfl,a1,a2,a3,a4,a5⟩
        dsimp only
        by_cases hge:lo≥hi
        · rw[if_pos hge]
          have e:lo=hi:=by lia
          subst e
          exact Bq ⟨rfl,lo,rfl,a2,a4,a5⟩
        · rw[if_neg hge]
          refine Bg (hf _ (by lia) _ ?_)
          dsimp only
          cases hm:p (lo+(hi-lo)/2) with
          | true =>
            rw[if_pos rfl]
            exact Bq ⟨rfl,_,_,rfl,by lia,a2,by lia,λi hi'=>hp i _ (by lia) (by lia) hm,a5⟩
          | false =>
            rw[if_neg (by simp)]
            refine Bq ⟨rfl,_,_,rfl,by lia,by lia,by lia,a4,λi hi' hn =>?_⟩
            cases hpi:p i with
            | false=>rfl
            | true=>rw[hp _ i hi' hn hpi] at hm;cases hm
end
open PySem PyProof.Rows
structure Cmp (prog:Bi)(w:BQ)(A:Cc)(s:A1)(O:Fw)(key:Bp->O.α)(U:Bp->Prop)(κ:SortKind):Prop where
 lt:∀(E:AS->A1->Prop) (st:BO) (x y:Bp) (Q:Option Bool->BO->Prop),kindOf st=κ -> U x->U y->Q (some (O.blt (key x) (key y))) st->wpS (BJ prog w) A E s (lt' x y) Q st
section
variable  {prog:Bi}{w:BQ}{A:Cc}{E:AS->A1->Prop}{s:A1}{O:Fw}{key:Bp->O.α}{U:Bp->Prop}{κ:SortKind}
theorem aU {ar:Array Bp}{i:Nat}{z:Bp}{st:BO}{Q:Bp->BO->Prop}(h:ar[i]? = some z)(hq:Q z st):wpS (BJ prog w) A E s (elem' ar i) Q st:=by
 rw[elem'_eq,h]
 exact Bq hq
theorem zB (C:Cmp prog w A s O key U κ){ky:Bp}{ar:Array Bp}{bs n ht:Nat}{st:BO}{Q:Option Nat->BO->Prop}(g:Nat->Bp)(hk:kindOf st=κ)(uk:U ky)
  (hg:∀i,i<n->ar[bs+i]? = some (g i)) (hu:∀i,i<n->U (g i)) (hs:∀i j,i<=j->j<n->O.kle (key (g i)) (key (g j))) (hh:ht<n)
  (h:∀k,k<=n->(∀i,i<k->O.kle (key (g i)) (key ky))->(∀i,k<=i->i<n->O.klt (key ky) (key (g i)))->Q (some k) st):wpS (BJ prog w) A E s (gal false ky ar bs n ht) Q st:=by
 refine vK (λi => !O.blt (key ky) (key (g i))) (λi hi R hr =>?_) (λi j hij hj hp =>?_) hh (λk hk' h1 h2=>h k hk' (λi hi =>?_) λi hi hn =>?_)
 ·refine Bg (aU (hg i hi) ?_)
  rw[if_neg (by simp)]
  exact Bg (C.lt _ st ky (g i) _ hk uk (hu i hi) (Bq hr))
 ·have a1:O.blt (key ky) (key (g j))=false:=by simpa using hp
  have a2:O.kle (key (g i)) (key ky):=B0 (hs i j hij hj) a1
  have a3:O.blt (key ky) (key (g i))=false:=a2
  simp[a3]
 ·have a1:=h1 i hi
  exact (by simpa using a1:O.blt (key ky) (key (g i))=false)
 ·have a1:=h2 i hi hn
  exact (by simpa using a1:O.blt (key ky) (key (g i))=true)
theorem zC (C:Cmp prog w A s O key U κ){ky:Bp}{ar:Array Bp}{bs n ht:Nat}{st:BO}{Q:Option Nat->BO->Prop}(g:Nat->Bp)(hk:kindOf st=κ)(uk:U ky)
  (hg:∀i,i<n->ar[bs+i]? = some (g i)) (hu:∀i,i<n->U (g i)) (hs:∀i j,i<=j->j<n->O.kle (key (g i)) (key (g j))) (hh:ht<n)
  (h:∀k,k<=n->(∀i,i<k->O.klt (key (g i)) (key ky))->(∀i,k<=i->i<n->O.kle (key ky) (key (g i)))->Q (some k) st):wpS (BJ prog w) A E s (gal true ky ar bs n ht) Q st:=by
 refine vK (λi=>O.blt (key (g i)) (key ky)) (λi hi R hr =>?_) (λi j hij hj hp =>?_) hh (λk hk' h1 h2=>h k hk' (λi hi=>h1 i hi) λi hi hn=>h2 i hi hn)
 ·refine Bg (aU (hg i hi) ?_)
  rw[if_pos rfl]
  exact C.lt _ st (g i) ky _ hk (hu i hi) uk hr
 ·exact KeyOrd.klt_of_kle_of_klt (hs i j hij hj) hp
end
open PySem PyProof.Rows
section
variable  {O:Fw}(key:Bp->O.α)
def Le (p q:Bp):Prop:=O.kle (key p) (key q)
structure MW (a b o:Array Bp)(x y:Nat):Prop where
 hx:x<=a.size
 hy:y<=b.size
 perm:(o.toList++(a.toList.drop x++b.toList.drop y)).Perm (a.toList++b.toList)
 sorted:o.toList.Pairwise (Le key)
 below:∀p∈o.toList,∀z∈a.toList.drop x++b.toList.drop y,Le key p z
def dI (a b r:Array Bp):Prop:=r.toList.Perm (a.toList++b.toList)/\r.toList.Pairwise (Le key)
variable  {key}
theorem MW.fin {a b o:Array Bp}{x y:Nat}(m:MW key a b o x y){t:List Bp}{r:Array Bp}(hr:r.toList=o.toList++t)(ht:t.Perm (a.toList.drop x++b.toList.drop y))(hs:t.Pairwise (Le key)):dI key a b r:=by
 unfold dI
 rw[hr]
 exact ⟨(C0 _ ht).trans m.perm,Cn.mpr ⟨m.sorted,hs,λp hp q hq=>m.below p hp q (ht.mem_iff.mp hq)⟩⟩
theorem MW.take {a b o:Array Bp}{x y x' y':Nat}(m:MW key a b o x y){t:List Bp}{r:Array Bp}(hr:r.toList=o.toList++t)(hx:x'<=a.size)(hy:y'<=b.size)
  (ht:(t++(a.toList.drop x'++b.toList.drop y')).Perm (a.toList.drop x++b.toList.drop y)) (hs:t.Pairwise (Le key)) (hb:∀p∈t,∀z∈a.toList.drop x'++b.toList.drop y',Le key p z):MW key a b r x' y':=by
 have sub:∀z,z∈t\/z∈a.toList.drop x'++b.toList.drop y'->z∈a.toList.drop x++b.toList.drop y:=λz hz=>ht.mem_iff.mp (A7.mpr hz)
 refine ⟨hx,hy,?_,?_,?_⟩
 ·rw[hr,BV]
  exact (C0 _ ht).trans m.perm
 ·rw[hr]
  exact Cn.mpr ⟨m.sorted,hs,λp hp q hq=>m.below p hp q (sub q (.inl hq))⟩
 ·rw[hr]
  intro p hp z hz
  rcases A7.mp hp with h | h
  ·exact m.below p h z (sub z (.inr hz))
  ·exact hb p h z hz
theorem drop_cons {α:Type}{l:List α}{i:Nat}{z:α}(h:l[i]? = some z):l.drop i=z :: l.drop (i+1):=by
 obtain ⟨hi,e⟩:=AW.mp h
 rw[FV hi,e]
theorem drop_take {α:Type}(l:List α)(i k:Nat):l.drop i=(l.drop i).take k++l.drop (i+k):=by
 rw[<- IU,C1]
theorem aF {a:Array Bp}{i:Nat}{z:Bp}(h:a[i]? = some z):a.toList[i]? = some z:=by rw[A9];exact h
theorem MW.jV {a b o:Array Bp}{x y:Nat}{z:Bp}(m:MW key a b o x y)(h:a[x]? = some z)(ha:a.toList.Pairwise (Le key))(hb:∀t∈b.toList.drop y,Le key z t):MW key a b (o.push z) (x+1) y:=by
 have e:=drop_cons (aF h)
 have hx:x<a.size:=(Di.mp h).1
 have pa:(z :: a.toList.drop (x+1)).Pairwise (Le key):=by rw[<- e];exact ha.sublist (Cw _ _)
 refine m.take (t:=[z]) (by rw[Dl]) hx m.hy (by rw[e];exact Eo _) (CO _ _) λp hp t ht =>?_
 have ep:p=z:=by simpa using hp
 subst ep
 rcases A7.mp ht with q | q
 ·exact (CA.mp pa).1 t q
 ·exact hb t q
theorem MW.mW {a b o:Array Bp}{x y:Nat}{z:Bp}(m:MW key a b o x y)(h:b[y]? = some z)(hb:b.toList.Pairwise (Le key))(ha:∀t∈a.toList.drop x,Le key z t):MW key a b (o.push z) x (y+1):=by
 have e:=drop_cons (aF h)
 have hy:y<b.size:=(Di.mp h).1
 have pb:(z :: b.toList.drop (y+1)).Pairwise (Le key):=by rw[<- e];exact hb.sublist (Cw _ _)
 refine m.take (t:=[z]) (by rw[Dl]) m.hx hy (by rw[e,List.singleton_append];exact Iq.symm) (CO _ _) λp hp t ht =>?_
 have ep:p=z:=by simpa using hp
 subst ep
 rcases A7.mp ht with q | q
 ·exact ha t q
 ·exact (CA.mp pb).1 t q
theorem ext_toList (a:Array Bp)(x k:Nat):(a.extract x (x+k)).toList=(a.toList.drop x).take k:=by
 rw[Dy,CV,D8]
theorem gE (a:Array Bp)(x:Nat):(a.extract x a.size).toList=a.toList.drop x:=by
 rw[Dy,CV]
 exact Bb (by rw[Co,A5];exact AY _)
theorem aI {l:List Bp}(h:l.Pairwise (Le key)){i j:Nat}{p q:Bp}(hi:l[i]? = some p)(hj:l[j]? = some q)(hij:i<=j):Le key p q:=by
 by_cases e:i=j
 ·subst e
  rw[hi] at hj
  cases hj
  exact C9 _
 ·obtain ⟨h1,e1⟩:=AW.mp hi
  obtain ⟨h2,e2⟩:=AW.mp hj
  have:=DQ.mp h i j h1 h2 (by lia)
  rw[e1,e2] at this
  exact this
theorem aT {l:List Bp}{i:Nat}{t:Bp}(h:t∈l.drop i):∃j,i<=j/\l[j]? = some t:=by
 obtain ⟨n,e⟩:=Bj.mp h
 rw[Dc] at e
 exact ⟨i+n,by lia,e⟩
theorem jW {l:List Bp}{i k:Nat}{t:Bp}(h:t∈(l.drop i).take k):∃j,j<k/\l[i+j]? = some t:=by
 obtain ⟨n,e⟩:=Bj.mp h
 rw[Dd] at e
 split at e
 ·rw[Dc] at e
  exact ⟨n,by omega,e⟩
 ·cases e
theorem MW.vL {a b o:Array Bp}{x y k:Nat}(m:MW key a b o x y)(hk:x+k<=a.size)(ha:a.toList.Pairwise (Le key))(hb:∀j p,j<k->a.toList[x+j]? = some p->∀t∈b.toList.drop y,Le key p t):MW key a b (o++a.extract x (x+k)) (x+k) y:=by
 refine m.take (t:=(a.toList.drop x).take k) (by rw[B1,ext_toList]) hk m.hy ?_ ?_ λp hp t ht =>?_
 ·rw[<- BV, <- drop_take]
 ·exact ha.sublist ((CH _ _).trans (Cw _ _))
 ·obtain ⟨j,hj,e⟩:=jW hp
  rcases A7.mp ht with q | q
  ·obtain ⟨i,hi,e2⟩:=aT q
   exact aI ha e e2 (by lia)
  ·exact hb j p hj e t q
theorem MW.vM {a b o:Array Bp}{x y k:Nat}(m:MW key a b o x y)(hk:y+k<=b.size)(hb:b.toList.Pairwise (Le key))(ha:∀j p,j<k->b.toList[y+j]? = some p->∀t∈a.toList.drop x,Le key p t):MW key a b (o++b.extract y (y+k)) x (y+k):=by
 refine m.take (t:=(b.toList.drop y).take k) (by rw[B1,ext_toList]) m.hx hk ?_ ?_ λp hp t ht =>?_
 ·rw[drop_take b.toList y k]
  have e:((b.toList.drop y).take k++b.toList.drop (y+k)).take k=(b.toList.drop y).take k:=by rw[<- drop_take]
  rw[e]
  refine (List.perm_append_comm_assoc _ _ _)
 ·exact hb.sublist ((CH _ _).trans (Cw _ _))
 ·obtain ⟨j,hj,e⟩:=jW hp
  rcases A7.mp ht with q | q
  ·exact ha j p hj e t q
  ·obtain ⟨i,hi,e2⟩:=aT q
   exact aI hb e e2 (by lia)
theorem MW.uh {a b o:Array Bp}{x y:Nat}(m:MW key a b o x y)(ha:a.toList.Pairwise (Le key))(hy:y=b.size):dI key a b (o++a.extract x a.size++b.extract y b.size):=by
 subst hy
 have e:b.toList.drop b.size=[]:=Gz (by rw[A5];exact AY _)
 refine m.fin (t:=a.toList.drop x) (by rw[B1,B1,gE,gE,e,B7]) (by rw[e,B7]) (ha.sublist (Cw _ _))
theorem MW.um {a b o:Array Bp}{x y:Nat}(m:MW key a b o x y)(hb:b.toList.Pairwise (Le key))(hx:x=a.size):dI key a b (o++a.extract x a.size++b.extract y b.size):=by
 subst hx
 have e:a.toList.drop a.size=[]:=Gz (by rw[A5];exact AY _)
 refine m.fin (t:=b.toList.drop y) (by rw[B1,B1,gE,gE,e,B7]) (by rw[e,ER]) (hb.sublist (Cw _ _))
theorem MW.last {a b o:Array Bp}{x y:Nat}(m:MW key a b o x y)(ha:a.toList.Pairwise (Le key))(hb:b.toList.Pairwise (Le key))(hx:x+1=a.size)(hl:∀p q,p∈b.toList->a[a.size-1]? = some q->Le key p q):dI key a b (o++b.extract y b.size++a.extract x a.size):=by
 refine m.fin (t:=b.toList.drop y++a.toList.drop x) (by rw[B1,B1,gE,gE,BV]) Dp ?_
 refine Cn.mpr ⟨hb.sublist (Cw _ _),ha.sublist (Cw _ _),λp hp q hq=>hl p q (En hp) ?_⟩
 obtain ⟨i,hi,e⟩:=aT hq
 rw[A9] at e
 have hi2:i<a.size:=(Di.mp e).1
 rw[show a.size-1=i by lia]
 exact e
theorem MW.size {a b o:Array Bp}{x y:Nat}(m:MW key a b o x y):o.size+(a.size-x)+(b.size-y)=a.size+b.size:=by
 have e:=m.perm.length_eq
 simp only[AR,Co,A5] at e
 lia
end
structure Sm (st st':BO):Prop where
 k:kindOf st'=kindOf st
 a:Bx st'=Bx st
 p:BI st'=BI st
 f:failedOf st'=failedOf st
theorem Sm.refl (st:BO):Sm st st:=⟨rfl,rfl,rfl,rfl⟩
theorem Sm.mg {st st':BO}(h:Sm st st')(n:Nat):Sm st (SortSt.mk' (kindOf st') (Bx st') (BI st') n (failedOf st')):=⟨h.k,h.a,h.p,h.f⟩
open PySem PyProof.Rows
section
variable  {prog:Bi}{w:BQ}{A:Cc}{E:AS->A1->Prop}{s:A1}{O:Fw}{key:Bp->O.α}{U:Bp->Prop}{κ:SortKind}
theorem aV {a:Array Bp}{i:Nat}(h:i<a.size):∃z,a[i]? = some z:=⟨a[i],by simp[h]⟩
theorem bI {a:Array Bp}{i:Nat}{z:Bp}(h:a[i]? = some z):z∈a.toList:=Bj.mpr ⟨i,by rw[A9];exact h⟩
theorem ltq {x n:Nat}(h:x<=n)(c:¬ (x == n)=true):x<n:=Hv h λz=>c (beq_iff_eq.mpr z)
abbrev LoC:=Option (Array Bp)×Array Bp×Nat×Nat×Nat×Nat×Nat
def xB (a b o:Array Bp)(x y mg ac bc:Nat):StateT BO Sem (ForInStep LoC):=do
  let z ← elem' a x
  if (x+1+1 == a.size)=true then pure (.done (some (o.push z++b.extract y b.size++a.extract (x+1) a.size),o.push z,x+1,y,mg,ac,bc))
  else if (decide (ac<7) && decide (bc<7))=true then pure (.done (none,o.push z,x+1,y,mg,ac,bc))
  else pure (.yield (none,o.push z,x+1,y,mg,ac,bc))
def xC (a b o:Array Bp)(x y mg ac bc:Nat):StateT BO Sem (ForInStep LoC):=do
  let z ← elem' b y
  if (y+1 == b.size)=true then pure (.done (some (o.push z++a.extract x a.size++b.extract (y+1) b.size),o.push z,x,y+1,mg,ac,bc))
  else do
    let z2 ← elem' a x
    let __x ← gal true z2 b (y+1) (b.size-(y+1)) 0
    match __x with
    | some k =>
      if k>0 then
        if (y+1+k == b.size)=true then pure (.done (some (o.push z++b.extract (y+1) (y+1+k)++a.extract x a.size++b.extract (y+1+k) b.size),o.push z++b.extract (y+1) (y+1+k),x,y+1+k,mg,ac,k))
        else xB a b (o.push z++b.extract (y+1) (y+1+k)) x (y+1+k) mg ac k
      else xB a b (o.push z) x (y+1) mg ac k
    | _=>pure (.done (some (o.push z++a.extract x a.size++b.extract (y+1) b.size),o.push z,x,y+1,mg,ac,bc))
def uo (a b p:Array Bp)(x y ac bc mg:Nat):StateT BO Sem (ForInStep LoC):=do
  modify (λs=>SortSt.mk' (kindOf s) (Bx s) (BI s) mg (failedOf s))
  let z ← elem' b y
  let __x ← gal false z a x (a.size-x) 0
  match __x with
  | some k =>
    if k>0 then
      if (x+k+1 == a.size)=true then pure (.done (some (p++a.extract x (x+k)++b.extract y b.size++a.extract (x+k) a.size),p++a.extract x (x+k),x+k,y,mg,k,bc))
      else if (x+k == a.size)=true then pure (.done (some (p++a.extract x (x+k)++a.extract (x+k) a.size++b.extract y b.size),p++a.extract x (x+k),x+k,y,mg,k,bc))
      else xC a b (p++a.extract x (x+k)) (x+k) y mg k bc
    else xC a b p x y mg k bc
  | _=>pure (.done (some (p++a.extract x a.size++b.extract y b.size),p,x,y,mg,ac,bc))
def LoQ (key:Bp->O.α)(a b:Array Bp)(st:BO)(n:Nat)(r:ForInStep LoC)(st':BO):Prop:=match r with
 | .done c=>Sm st st'/\((∃r p x y mg ac bc,c=(some r,p,x,y,mg,ac,bc)/\dI key a b r)\/∃p x y mg ac bc,c=(none,p,x,y,mg,ac,bc)/\MW key a b p x y/\x+1<a.size/\y<b.size/\n<=p.size)
 | .yield c=>Sm st st'/\∃p x y mg ac bc,c=(none,p,x,y,mg,ac,bc)/\MW key a b p x y/\x+1<a.size/\y<b.size/\n<=p.size
theorem LoQ.out {a b:Array Bp}{st st':BO}{n:Nat}{r:Array Bp}{c:Array Bp×Nat×Nat×Nat×Nat×Nat}(sm:Sm st st')(f:dI key a b r):LoQ key a b st n (.done (some r,c)) st':=by
 obtain ⟨p,x,y,mg,ac,bc⟩:=c
 exact ⟨sm,.inl ⟨_,_,_,_,_,_,_,rfl,f⟩⟩
theorem rW {a b:Array Bp}{st st':BO}(ha:a.toList.Pairwise (Le key))(hb:b.toList.Pairwise (Le key))(hl:∀p q,p∈b.toList->a[a.size-1]? = some q->Le key p q)
  {o:Array Bp} {x y mg ac bc n:Nat} {za:Bp} (sm:Sm st st') (ea:a[x]? = some za) (m4:MW key a b (o.push za) (x+1) y) (hx:x+1<a.size) (hy:y<b.size) (hn:n<=o.size):wpS (BJ prog w) A E s (xB a b o x y mg ac bc) (LoQ key a b st n) st':=by
 unfold xB
 refine Bg (aU ea ?_)
 by_cases d5:(x+1+1 == a.size)=true
 ·rw[if_pos d5]
  exact Bq (LoQ.out sm (m4.last ha hb (beq_iff_eq.mp d5) hl))
 rw[if_neg d5]
 have hx2:x+1+1<a.size:=ltq hx d5
 have hn':n<=(o.push za).size:=by rw[DV];exact DW hn
 split
 ·exact Bq ⟨sm,.inr ⟨_,_,_,_,_,_,rfl,m4,hx2,hy,hn'⟩⟩
 ·exact Bq ⟨sm,_,_,_,_,_,_,rfl,m4,hx2,hy,hn'⟩
theorem rX (C:Cmp prog w A s O key U κ){a b:Array Bp}{st st':BO}(hκ:kindOf st=κ)(ua:∀p∈a.toList,U p)(ub:∀p∈b.toList,U p)
  (ha:a.toList.Pairwise (Le key)) (hb:b.toList.Pairwise (Le key)) (hl:∀p q,p∈b.toList->a[a.size-1]? = some q->Le key p q)
  {o:Array Bp} {x y mg ac bc n:Nat} {zb:Bp} (sm:Sm st st') (eb:b[y]? = some zb) (mk:MW key a b o x y) (bl:∀t∈a.toList.drop x,Le key zb t) (hx1:x+1<a.size) (hy:y<b.size) (hn:n<=o.size):wpS (BJ prog w) A E s (xC a b o x y mg ac bc) (LoQ key a b st n) st':=by
 unfold xC
 refine Bg (aU eb ?_)
 have m2:=mk.mW eb hb bl
 by_cases d3:(y+1 == b.size)=true
 ·rw[if_pos d3]
  exact Bq (LoQ.out sm (m2.uh ha (beq_iff_eq.mp d3)))
 rw[if_neg d3]
 have hy1:y+1<b.size:=ltq hy d3
 have hxa:x<a.size:=DX hx1
 obtain ⟨za,ea⟩:=aV hxa
 refine Bg (aU ea ?_)
 refine Bg (zC C (λi=>(b[y+1+i]?).getD za) (sm.k.trans hκ) (ua _ (bI ea)) (λi hi =>?_) (λi hi =>?_) (λi j hij hj =>?_) (HU hy1) λk1 hk1 g1 g2 =>?_)
 ·obtain ⟨z,e⟩:=aV (show y+1+i<b.size by omega)
  rw[e];rfl
 ·obtain ⟨z,e⟩:=aV (show y+1+i<b.size by omega)
  rw[e];exact ub _ (bI e)
 ·obtain ⟨z,e⟩:=aV (show y+1+i<b.size by omega)
  obtain ⟨z',e'⟩:=aV (show y+1+j<b.size by omega)
  rw[e,e'];exact aI hb (aF e) (aF e') (Ex hij _)
 dsimp only at g1 g2 ⊢
 have tb:∀j q,j<k1->b.toList[y+1+j]? = some q->∀t∈a.toList.drop x,Le key q t:=λj q hj e t ht=>by
  have z:=g1 j hj
  rw[A9] at e
  rw[e] at z
  obtain ⟨n,hn,e2⟩:=aT ht
  exact B0 (CJ z) (aI ha (aF ea) e2 hn)
 have hk1':y+1+k1<=b.size:=by omega
 have m3:=m2.vM (k:=k1) hk1' hb tb
 have bl2:∀t∈b.toList.drop (y+1+k1),Le key za t:=λt ht=>by
  obtain ⟨n,hn,e2⟩:=aT ht
  rw[A9] at e2
  have hn2:n<b.size:=(Di.mp e2).1
  have z:=g2 (n-(y+1)) (by omega) (by omega)
  rw[show y+1+(n-(y+1))=n by omega,e2] at z
  exact z
 have hn1:n<=(o.push zb).size:=by rw[DV];exact DW hn
 by_cases k2:k1>0
 ·rw[if_pos k2]
  by_cases d4:(y+1+k1 == b.size)=true
  ·rw[if_pos d4]
   exact Bq (LoQ.out sm (m3.uh ha (beq_iff_eq.mp d4)))
  rw[if_neg d4]
  exact rW ha hb hl sm ea (m3.jV ea ha bl2) hx1 (ltq hk1' d4) (BL hn1 (by rw[Em];exact Dv _ _))
 ·rw[if_neg k2]
  obtain rfl:k1=0:=Ef k2
  exact rW ha hb hl sm ea (m2.jV ea ha bl2) hx1 hy1 hn1
theorem rY (C:Cmp prog w A s O key U κ){a b:Array Bp}{st st':BO}(hκ:kindOf st=κ)(ua:∀p∈a.toList,U p)(ub:∀p∈b.toList,U p)
  (ha:a.toList.Pairwise (Le key)) (hb:b.toList.Pairwise (Le key)) (hl:∀p q,p∈b.toList->a[a.size-1]? = some q->Le key p q)
  {p:Array Bp} {x y ac bc n:Nat} (mg:Nat) (sm:Sm st st') (m:MW key a b p x y) (hx:x+1<a.size) (hy:y<b.size) (hn:n<=p.size):wpS (BJ prog w) A E s (uo a b p x y ac bc mg) (LoQ key a b st n) st':=by
 unfold uo
 obtain ⟨zb,eb⟩:=aV hy
 refine Bg (DG ?_)
 refine Bg (aU eb ?_)
 refine Bg (zB C (λi=>(a[x+i]?).getD zb) ((sm.mg _).k.trans hκ) (ub _ (bI eb)) (λi hi =>?_) (λi hi =>?_) (λi j hij hj =>?_) (HU (DX hx)) λk hk h1 h2 =>?_)
 ·obtain ⟨z,e⟩:=aV (show x+i<a.size by lia)
  rw[e];rfl
 ·obtain ⟨z,e⟩:=aV (show x+i<a.size by lia)
  rw[e];exact ua _ (bI e)
 ·obtain ⟨z,e⟩:=aV (show x+i<a.size by lia)
  obtain ⟨z',e'⟩:=aV (show x+j<a.size by lia)
  rw[e,e'];exact aI ha (aF e) (aF e') (Ex hij _)
 dsimp only at h1 h2 ⊢
 have ta:∀j q,j<k->a.toList[x+j]? = some q->∀t∈b.toList.drop y,Le key q t:=λj q hj e t ht=>by
  have z:=h1 j hj
  rw[A9] at e
  rw[e] at z
  obtain ⟨n,hn,e2⟩:=aT ht
  exact B0 (show O.kle (key q) (key zb) from z) (aI hb (aF eb) e2 hn)
 have hk':x+k<=a.size:=by lia
 have mk:=m.vL (k:=k) hk' ha ta
 have bl:∀t∈a.toList.drop (x+k),Le key zb t:=λt ht=>by
  obtain ⟨n,hn,e2⟩:=aT ht
  rw[A9] at e2
  have hn2:n<a.size:=(Di.mp e2).1
  have z:=h2 (n-x) (by lia) (by lia)
  rw[show x+(n-x)=n by lia,e2] at z
  exact CJ z
 by_cases k0:k>0
 ·rw[if_pos k0]
  by_cases d1:(x+k+1 == a.size)=true
  ·rw[if_pos d1]
   exact Bq (LoQ.out (sm.mg _) (mk.last ha hb (beq_iff_eq.mp d1) hl))
  rw[if_neg d1]
  by_cases d2:(x+k == a.size)=true
  ·rw[if_pos d2]
   exact Bq (LoQ.out (sm.mg _) (mk.um hb (beq_iff_eq.mp d2)))
  rw[if_neg d2]
  exact rX C hκ ua ub ha hb hl (sm.mg _) eb mk bl (ltq (ltq hk' d2) d1) hy (BL hn (by rw[Em];exact Dv _ _))
 ·rw[if_neg k0]
  obtain rfl:k=0:=Ef k0
  exact rX C hκ ua ub ha hb hl (sm.mg _) eb m bl hx hy hn
theorem xD (C:Cmp prog w A s O key U κ){a b:Array Bp}{st st':BO}(hκ:kindOf st=κ)(ua:∀p∈a.toList,U p)(ub:∀p∈b.toList,U p)
  (ha:a.toList.Pairwise (Le key)) (hb:b.toList.Pairwise (Le key)) (hl:∀p q,p∈b.toList->a[a.size-1]? = some q->Le key p q)
  {p:Array Bp} {x y ac bc n mg:Nat} (sm:Sm st st') (m:MW key a b p x y) (hx:x+1<a.size) (hy:y<b.size) (hn:n<=p.size):wpS (BJ prog w) A E s (if mg>1 then uo a b p x y ac bc (mg-1) else uo a b p x y ac bc mg) (LoQ key a b st n) st':=by
 split
 ·exact rY C hκ ua ub ha hb hl (mg-1) sm m hx hy hn
 ·exact rY C hκ ua ub ha hb hl mg sm m hx hy hn
abbrev LoD:=Option (Array Bp)×Array Bp×Nat×Nat×Nat×Nat
abbrev LoE:=Option (Array Bp)×Array Bp×Nat×Nat×Nat
def vN (a b:Array Bp)(mg:Nat)(c:LoD):StateT BO Sem (ForInStep LoD):=do
  let u ← elem' b c.2.2.2.1
  let v ← elem' a c.2.2.1
  let __x ← lt' u v
  match __x with
  | some bw =>
    if bw=true then do
      let z ← elem' b c.2.2.2.1
      if (c.2.2.2.1+1 == b.size)=true then pure (.done (some (c.2.1.push z++a.extract c.2.2.1 a.size++b.extract (c.2.2.2.1+1) b.size),c.2.1.push z,c.2.2.1,c.2.2.2.1+1,0,c.2.2.2.2.2+1))
      else if c.2.2.2.2.2+1≥mg then pure (.done (none,c.2.1.push z,c.2.2.1,c.2.2.2.1+1,0,c.2.2.2.2.2+1))
      else pure (.yield (none,c.2.1.push z,c.2.2.1,c.2.2.2.1+1,0,c.2.2.2.2.2+1))
    else do
      let z ← elem' a c.2.2.1
      if (c.2.2.1+1+1 == a.size)=true then pure (.done (some (c.2.1.push z++b.extract c.2.2.2.1 b.size++a.extract (c.2.2.1+1) a.size),c.2.1.push z,c.2.2.1+1,c.2.2.2.1,c.2.2.2.2.1+1,0))
      else if c.2.2.2.2.1+1≥mg then pure (.done (none,c.2.1.push z,c.2.2.1+1,c.2.2.2.1,c.2.2.2.2.1+1,0))
      else pure (.yield (none,c.2.1.push z,c.2.2.1+1,c.2.2.2.1,c.2.2.2.2.1+1,0))
  | _=>pure (.done (some (c.2.1++a.extract c.2.2.1 a.size++b.extract c.2.2.2.1 b.size),c.2.1,c.2.2.1,c.2.2.2.1,c.2.2.2.2.1,c.2.2.2.2.2))
def zD (a b:Array Bp)(c:LoC):StateT BO Sem (ForInStep LoC) :=
 if c.2.2.2.2.1>1 then uo a b c.2.1 c.2.2.1 c.2.2.2.1 c.2.2.2.2.2.1 c.2.2.2.2.2.2 (c.2.2.2.2.1-1) else uo a b c.2.1 c.2.2.1 c.2.2.2.1 c.2.2.2.2.2.1 c.2.2.2.2.2.2 c.2.2.2.2.1
def qB (a b:Array Bp)(c:LoE):StateT BO Sem (ForInStep LoE):=do
  let d ← forIn [0:a.size+b.size] ((none,c.2.1,c.2.2.1,c.2.2.2.1,0,0):LoD) λ_ d=>vN a b c.2.2.2.2 d
  match d.1 with
  | some r=>pure (.done (some r,d.2.1,d.2.2.1,d.2.2.2.1,c.2.2.2.2))
  | none=>do
    rule "list.sort.gallop"
    let e ← forIn [0:a.size+b.size] ((none,d.2.1,d.2.2.1,d.2.2.2.1,c.2.2.2.2+1,d.2.2.2.2.1,d.2.2.2.2.2):LoC) λ_ e=>zD a b e
    match e.1 with
    | some r=>pure (.done (some r,e.2.1,e.2.2.1,e.2.2.2.1,e.2.2.2.2.1))
    | none=>do
      modify (λs=>SortSt.mk' (kindOf s) (Bx s) (BI s) (e.2.2.2.2.1+1) (failedOf s))
      pure (.yield (none,e.2.1,e.2.2.1,e.2.2.2.1,e.2.2.2.2.1+1))
theorem xE (a b:Array Bp):mLo a b=(do
    rule "list.sort.merge-lo"
    let z ← elem' b 0
    if (1 == b.size)=true then pure (#[z]++a.extract 0 a.size++b.extract 1 b.size)
    else if (0+1 == a.size)=true then pure (#[z]++b.extract 1 b.size++a.extract 0 a.size)
    else do
      let g ← get
      let c ← forIn [0:a.size+b.size] ((none, #[z],0,1,gallopOf g):LoE) λ_ c=>qB a b c
      match c.1 with
      | some r=>pure r
      | none=>unsupported "internal:list.sort.merge-bound"):=by
  kernel_rfl
def LdI (key:Bp->O.α)(a b:Array Bp)(st:BO)(n:Nat)(c:LoD)(st':BO):Prop:=Sm st st'/\∃o' x y ac bc,c=(none,o',x,y,ac,bc)/\MW key a b o' x y/\x+1<a.size/\y<b.size/\n<=o'.size
def LdQ (key:Bp->O.α)(a b:Array Bp)(st:BO)(n:Nat)(c:LoD)(st':BO):Prop:=Sm st st'/\((∃r o x y ac bc,c=(some r,o,x,y,ac,bc)/\dI key a b r)\/∃o' x y ac bc,c=(none,o',x,y,ac,bc)/\MW key a b o' x y/\x+1<a.size/\y<b.size/\n<=o'.size)
theorem vO (C:Cmp prog w A s O key U κ){a b:Array Bp}{st st':BO}(hκ:kindOf st=κ)(ua:∀p∈a.toList,U p)(ub:∀p∈b.toList,U p)
  (ha:a.toList.Pairwise (Le key)) (hb:b.toList.Pairwise (Le key)) (hl:∀p q,p∈b.toList->a[a.size-1]? = some q->Le key p q)
  {mg n m':Nat} {c:LoD} (I:LdI key a b st n c st') (hm:m'<=n+1) {Q:ForInStep LoD->BO->Prop} (h:∀r st',(match r with | .done c'=>LdQ key a b st (n+1) c' st' | .yield c'=>LdI key a b st m' c' st')->Q r st'):wpS (BJ prog w) A E s (vN a b mg c) Q st':=by
 obtain ⟨sm2,o',x,y,ac,bc,rfl,m,hx,hy,hz⟩:=I
 unfold vN
 obtain ⟨za,ea⟩:=aV (DX hx)
 obtain ⟨zb,eb⟩:=aV hy
 refine Bg (aU eb (Bg (aU ea (Bg (C.lt _ st' zb za _ (sm2.k.trans hκ) (ub _ (bI eb)) (ua _ (bI ea)) ?_)))))
 dsimp only
 have sz:∀z,n+1<=(o'.push z).size:=λz=>by rw[DV];exact Gp hz
 cases hlt:O.blt (key zb) (key za) with
 | true =>
  rw[if_pos rfl]
  refine Bg (aU eb ?_)
  have m1:=m.mW eb hb λt ht=>by
   obtain ⟨n,hn,e⟩:=aT ht
   exact B0 (CJ hlt) (aI ha (aF ea) e hn)
  by_cases c3:(y+1 == b.size)=true
  ·rw[if_pos c3]
   exact Bq (h _ _ ⟨sm2,.inl ⟨_,_,_,_,_,_,rfl,m1.uh ha (beq_iff_eq.mp c3)⟩⟩)
  ·rw[if_neg c3]
   have c3':=ltq hy c3
   split
   ·exact Bq (h _ _ ⟨sm2,.inr ⟨_,_,_,_,_,rfl,m1,hx,c3',sz _⟩⟩)
   ·exact Bq (h _ _ ⟨sm2,_,_,_,_,_,rfl,m1,hx,c3',BL hm (sz _)⟩)
 | false =>
  rw[if_neg Bf]
  refine Bg (aU ea ?_)
  have m1:=m.jV ea ha λt ht=>by
   obtain ⟨n,hn,e⟩:=aT ht
   exact B0 (show O.kle (key za) (key zb) from hlt) (aI hb (aF eb) e hn)
  by_cases c3:(x+1+1 == a.size)=true
  ·rw[if_pos c3]
   exact Bq (h _ _ ⟨sm2,.inl ⟨_,_,_,_,_,_,rfl,m1.last ha hb (beq_iff_eq.mp c3) hl⟩⟩)
  ·rw[if_neg c3]
   have c3':=ltq hx c3
   split
   ·exact Bq (h _ _ ⟨sm2,.inr ⟨_,_,_,_,_,rfl,m1,c3',hy,sz _⟩⟩)
   ·exact Bq (h _ _ ⟨sm2,_,_,_,_,_,rfl,m1,c3',hy,BL hm (sz _)⟩)
def LeI (key:Bp->O.α)(a b:Array Bp)(st:BO)(n:Nat)(c:LoE)(st':BO):Prop:=Sm st st'/\∃o x y mg,c=(none,o,x,y,mg)/\MW key a b o x y/\x+1<a.size/\y<b.size/\n+1<=o.size
def LeQ (key:Bp->O.α)(a b:Array Bp)(st:BO)(c:LoE)(st':BO):Prop:=Sm st st'/\((∃r o x y mg,c=(some r,o,x,y,mg)/\dI key a b r)\/∃o x y mg,c=(none,o,x,y,mg)/\MW key a b o x y/\x+1<a.size/\y<b.size/\a.size+b.size+1<=o.size)
theorem ur (C:Cmp prog w A s O key U κ){a b:Array Bp}{st st':BO}(hκ:kindOf st=κ)(ua:∀p∈a.toList,U p)(ub:∀p∈b.toList,U p)
  (ha:a.toList.Pairwise (Le key)) (hb:b.toList.Pairwise (Le key)) (na:0<a.size) (hl:∀p q,p∈b.toList->a[a.size-1]? = some q->Le key p q)
  {n:Nat} {c:LoE} (I:LeI key a b st n c st'):wpS (BJ prog w) A E s (qB a b c) (λr st'=>match r with | .done c'=>LeQ key a b st c' st' | .yield c'=>LeI key a b st (n+1) c' st') st':=by
 obtain ⟨sm1,o,x,y,mg,rfl,m,hx,hy,hz⟩:=I
 unfold qB
 have q1:1<=a.size+b.size:=BL na (Dv _ _)
 refine Bg (Dn (CC (I:=λj c st'=>LdI key a b st (o.size+min j 1) c st') (Q:=LdQ key a b st (o.size+1)) (λj c st2 _ hj J=>vO (n:=o.size+min j 1) (m':=o.size+min (j+1) 1) C hκ ua ub ha hb hl J (by lia) λr st' k =>?_) (λc st' J =>?_) ⟨sm1,o,x,y,0,0,rfl,m,hx,hy,AY _⟩) ?_)
 ·cases r with
  | done c'=>exact k.imp id λz=>z.imp id λ⟨o',x,y,ac,bc,e,m,hx,hy,hz⟩=>⟨o',x,y,ac,bc,e,m,hx,hy,by lia⟩
  | yield c'=>exact k
 ·obtain ⟨sm,o',x,y,ac,bc,e,m,hx,hy,hz⟩:=J
  exact ⟨sm,.inr ⟨o',x,y,ac,bc,e,m,hx,hy,by lia⟩⟩
 rintro c st2 ⟨sm2,⟨r,o',x,y,ac,bc,rfl,fr⟩ | ⟨o',x,y,ac,bc,rfl,m,hx,hy,hz2⟩⟩
 ·exact Bq ⟨sm2,.inl ⟨_,_,_,_,_,rfl,fr⟩⟩
 dsimp only
 refine Bg (Gm (D3 ⟨rfl,?_⟩))
 refine Bg (Dn (CC (I:=λ_ c st'=>LoQ key a b st o'.size (.yield c) st') (Q:=λc st'=>LoQ key a b st o'.size (.done c) st') (λj c st3 _ hj J =>?_) (λc st' J=>⟨J.1,.inr J.2⟩) ⟨sm2,o',x,y,_,ac,bc,rfl,m,hx,hy,AY _⟩) ?_)
 ·obtain ⟨sm3,p,x,y,mg,ac,bc,rfl,m,hx,hy,hz3⟩:=J
  refine Dn (xD C hκ ua ub ha hb hl sm3 m hx hy hz3) ?_
  intro r st' h
  cases r <;> exact h
 rintro c st3 ⟨sm3,⟨r,p,x,y,mg,ac,bc,rfl,fr⟩ | ⟨p,x,y,mg,ac,bc,rfl,m,hx,hy,hz3⟩⟩
 ·exact Bq ⟨sm3,.inl ⟨_,_,_,_,_,rfl,fr⟩⟩
 ·dsimp only
  exact Bg (DG (Bq ⟨sm3.mg _,p,x,y,_,rfl,m,hx,hy,by lia⟩))
theorem zE (C:Cmp prog w A s O key U κ){a b:Array Bp}{st:BO}{Q:Array Bp->BO->Prop}(hκ:kindOf st=κ)(ua:∀p∈a.toList,U p)(ub:∀p∈b.toList,U p)
  (ha:a.toList.Pairwise (Le key)) (hb:b.toList.Pairwise (Le key)) (na:0<a.size) (nb:0<b.size) (h0:∀p q,b[0]? = some p->a[0]? = some q->Le key p q) (hl:∀p q,p∈b.toList->a[a.size-1]? = some q->Le key p q)
  (h:∀r st',Sm st st'->dI key a b r->Q r st'):wpS (BJ prog w) A E s (mLo a b) Q st:=by
 rw[xE]
 refine Bg (Gm (D3 ⟨rfl,?_⟩))
 obtain ⟨b0,eb0⟩:=aV nb
 obtain ⟨a0,ea0⟩:=aV na
 have a0le:∀t∈a.toList,Le key a0 t:=λt ht=>by
  obtain ⟨i,e⟩:=Bj.mp ht
  exact aI ha (aF ea0) e (BX _)
 have m0:MW key a b #[] 0 0:=⟨BX _,BX _,Eo _,List.Pairwise.nil,λp hp=>by cases hp⟩
 have m1:MW key a b #[b0] 0 1:=m0.mW eb0 hb λt ht=>B0 (h0 _ _ eb0 ea0) (a0le t ht)
 refine Bg (aU eb0 ?_)
 by_cases c1:(1 == b.size)=true
 ·rw[if_pos c1]
  exact Bq (h _ st (Sm.refl st) (m1.uh ha (beq_iff_eq.mp c1)))
 rw[if_neg c1]
 by_cases c2:(0+1 == a.size)=true
 ·rw[if_pos c2]
  exact Bq (h _ st (Sm.refl st) (m1.last ha hb (beq_iff_eq.mp c2) hl))
 rw[if_neg c2]
 refine Bg (F1 ?_)
 refine Bg (Dn (CC (I:=λi c st'=>LeI key a b st i c st') (Q:=LeQ key a b st) (λi c st1 _ _ J=>Dn (ur C hκ ua ub ha hb na hl J) λr st' h=>by cases r <;> exact h) (λc st' J =>?_) ⟨Sm.refl st,_,_,_,_,rfl,m1,ltq na c2,ltq nb c1,AY _⟩) ?_)
 ·obtain ⟨sm,o,x,y,mg,e,m,hx,hy,hz⟩:=J
  exact ⟨sm,.inr ⟨o,x,y,mg,e,m,hx,hy,by lia⟩⟩
 rintro c st' ⟨sm,⟨r,o,x,y,mg,rfl,fr⟩ | ⟨o,x,y,mg,rfl,m,hx,hy,hz⟩⟩
 ·exact Bq (h r st' sm fr)
 ·have:=m.size
  lia
end
open PySem PyProof.Rows
section
variable  {O:Fw}(key:Bp->O.α)
structure MV (a b o:Array Bp)(x y:Nat):Prop where
 hx:x<=a.size
 hy:y<=b.size
 perm:((a.toList.take x++b.toList.take y)++o.toList.reverse).Perm (a.toList++b.toList)
 sorted:o.toList.reverse.Pairwise (Le key)
 above:∀p∈a.toList.take x++b.toList.take y,∀q∈o.toList.reverse,Le key p q
variable  {key}
theorem MV.fin {a b o:Array Bp}{x y:Nat}(m:MV key a b o x y){t:List Bp}{r:Array Bp}(hr:r.toList=t++o.toList.reverse)(ht:t.Perm (a.toList.take x++b.toList.take y))(hs:t.Pairwise (Le key)):dI key a b r:=by
 unfold dI
 rw[hr]
 exact ⟨(DK _ ht).trans m.perm,Cn.mpr ⟨hs,m.sorted,λp hp q hq=>m.above p (ht.mem_iff.mp hp) q hq⟩⟩
theorem MV.take {a b o:Array Bp}{x y x' y':Nat}(m:MV key a b o x y){t:List Bp}{r:Array Bp}(hr:r.toList.reverse=t++o.toList.reverse)(hx:x'<=a.size)(hy:y'<=b.size)
  (ht:((a.toList.take x'++b.toList.take y')++t).Perm (a.toList.take x++b.toList.take y)) (hs:t.Pairwise (Le key)) (hb:∀p∈a.toList.take x'++b.toList.take y',∀q∈t,Le key p q):MV key a b r x' y':=by
 have sub:∀z,z∈a.toList.take x'++b.toList.take y'\/z∈t->z∈a.toList.take x++b.toList.take y:=λz hz=>ht.mem_iff.mp (A7.mpr hz)
 refine ⟨hx,hy,?_,?_,?_⟩
 ·rw[hr, <- BV]
  exact (DK _ ht).trans m.perm
 ·rw[hr]
  exact Cn.mpr ⟨hs,m.sorted,λp hp q hq=>m.above p (sub p (.inr hp)) q hq⟩
 ·rw[hr]
  intro p hp z hz
  rcases A7.mp hz with h | h
  ·exact hb p hp z h
  ·exact m.above p (sub p (.inl hp)) z h
theorem aW {l:List Bp}{k:Nat}{t:Bp}(h:t∈l.take k):∃j,j<k/\l[j]? = some t:=by
 obtain ⟨n,e⟩:=Bj.mp h
 rw[Dd] at e
 split at e
 ·exact ⟨n,by omega,e⟩
 ·cases e
theorem mX {l:List Bp}{x:Nat}{z:Bp}(hx:1<=x)(h:l[x-1]? = some z):l.take x=l.take (x-1)++[z]:=by
 obtain ⟨n,rfl⟩:∃n,x=n+1:=⟨x-1,by lia⟩
 rw[Nat.add_sub_cancel] at h ⊢
 rw[BG,h]
 rfl
theorem rZ (a:Array Bp)(c x:Nat)(hx:x<=a.size):(a.extract c x).toList=(a.toList.take x).drop c:=by
 rw[Dy,CV,List.drop_take]
theorem gF (a:Array Bp)(x:Nat):(a.extract 0 x).toList=a.toList.take x:=by
 rw[Dy,CV,Ep,Ic]
theorem MV.jV {a b o:Array Bp}{x y:Nat}{z:Bp}(m:MV key a b o x y)(h1:1<=x)(h:a[x-1]? = some z)(ha:a.toList.Pairwise (Le key))(hb:∀t∈b.toList.take y,Le key t z):MV key a b (o.push z) (x-1) y:=by
 have e:=mX h1 (aF h)
 refine m.take (t:=[z]) (by rw[Dl,Ey];rfl) (by have:=m.hx;lia) m.hy ?_ (CO _ _) λp hp q hq =>?_
 ·rw[e,BV,BV]
  exact C0 _ Dp
 ·have eq:q=z:=by simpa using hq
  subst eq
  rcases A7.mp hp with r | r
  ·obtain ⟨j,hj,e2⟩:=aW r
   exact aI ha e2 (aF h) (by lia)
  ·exact hb p r
theorem MV.mW {a b o:Array Bp}{x y:Nat}{z:Bp}(m:MV key a b o x y)(h1:1<=y)(h:b[y-1]? = some z)(hb:b.toList.Pairwise (Le key))(ha:∀t∈a.toList.take x,Le key t z):MV key a b (o.push z) x (y-1):=by
 have e:=mX h1 (aF h)
 refine m.take (t:=[z]) (by rw[Dl,Ey];rfl) m.hx (by have:=m.hy;lia) ?_ (CO _ _) λp hp q hq =>?_
 ·rw[e,BV]
 ·have eq:q=z:=by simpa using hq
  subst eq
  rcases A7.mp hp with r | r
  ·exact ha p r
  ·obtain ⟨j,hj,e2⟩:=aW r
   exact aI hb e2 (aF h) (by lia)
theorem r6 (l:List Bp){c x:Nat}(h:c<=x):l.take x=l.take c++(l.take x).drop c:=by
 have e:(l.take x).take c=l.take c:=by rw[List.take_take,Nat.min_eq_left h]
 rw[<- e,C1]
theorem kM {l:List Bp}{c x:Nat}{t:Bp}(h:t∈(l.take x).drop c):∃j,c<=j/\j<x/\l[j]? = some t:=by
 obtain ⟨j,hj,e⟩:=aT h
 rw[Dd] at e
 split at e
 ·exact ⟨j,hj,by omega,e⟩
 ·cases e
theorem MV.vL {a b o:Array Bp}{x y c:Nat}(m:MV key a b o x y)(hc:c<=x)(ha:a.toList.Pairwise (Le key))(hb:∀j p,c<=j->j<x->a.toList[j]? = some p->∀t∈b.toList.take y,Le key t p):MV key a b (o++(a.extract c x).reverse) c y:=by
 refine m.take (t:=(a.toList.take x).drop c) (by rw[B1,Ey,DU,G6,rZ _ _ _ m.hx]) (BL hc m.hx) m.hy ?_ ?_ λp hp q hq =>?_
 ·refine List.Perm.trans ?_ (DK _ (List.Perm.of_eq (r6 a.toList hc).symm))
  rw[BV,BV]
  exact C0 _ Dp
 ·exact ha.sublist ((Cw _ _).trans (CH _ _))
 ·obtain ⟨j,h1,h2,e⟩:=kM hq
  rcases A7.mp hp with r | r
  ·obtain ⟨i,hi,e2⟩:=aW r
   exact aI ha e2 e (by lia)
  ·exact hb j q h1 h2 e p r
theorem MV.vM {a b o:Array Bp}{x y c:Nat}(m:MV key a b o x y)(hc:c<=y)(hb:b.toList.Pairwise (Le key))(ha:∀j p,c<=j->j<y->b.toList[j]? = some p->∀t∈a.toList.take x,Le key t p):MV key a b (o++(b.extract c y).reverse) x c:=by
 refine m.take (t:=(b.toList.take y).drop c) (by rw[B1,Ey,DU,G6,rZ _ _ _ m.hy]) m.hx (BL hc m.hy) ?_ ?_ λp hp q hq =>?_
 ·rw[BV, <- r6 b.toList hc]
 ·exact hb.sublist ((Cw _ _).trans (CH _ _))
 ·obtain ⟨j,h1,h2,e⟩:=kM hq
  rcases A7.mp hp with r | r
  ·exact ha j q h1 h2 e p r
  ·obtain ⟨i,hi,e2⟩:=aW r
   exact aI hb e2 e (by lia)
theorem MV.um {a b o:Array Bp}{x y:Nat}(m:MV key a b o x y)(hb:b.toList.Pairwise (Le key))(hx:x=0):dI key a b (a.extract 0 x++b.extract 0 y++o.reverse):=by
 subst hx
 refine m.fin (t:=b.toList.take y) (by rw[B1,B1,gF,gF,DU,FX,ER]) (by rw[FX,ER]) (hb.sublist (CH _ _))
theorem MV.uh {a b o:Array Bp}{x y:Nat}(m:MV key a b o x y)(ha:a.toList.Pairwise (Le key))(hy:y=0):dI key a b (a.extract 0 x++b.extract 0 y++o.reverse):=by
 subst hy
 refine m.fin (t:=a.toList.take x) (by rw[B1,B1,gF,gF,DU,FX,B7]) (by rw[FX,B7]) (ha.sublist (CH _ _))
theorem MV.first {a b o:Array Bp}{x y:Nat}(m:MV key a b o x y)(ha:a.toList.Pairwise (Le key))(hb:b.toList.Pairwise (Le key))(hy:y=1)(hl:∀p q,b[0]? = some p->q∈a.toList->Le key p q):dI key a b (b.extract 0 y++a.extract 0 x++o.reverse):=by
 refine m.fin (t:=b.toList.take y++a.toList.take x) (by rw[B1,B1,gF,gF,DU]) Dp ?_
 refine Cn.mpr ⟨hb.sublist (CH _ _),ha.sublist (CH _ _),λp hp q hq=>hl p q ?_ (Dz hq)⟩
 obtain ⟨i,hi,e⟩:=aW hp
 rw[A9] at e
 rw[show i=0 by lia] at e
 exact e
theorem MV.size {a b o:Array Bp}{x y:Nat}(m:MV key a b o x y):o.size+x+y=a.size+b.size:=by
 have e:=m.perm.length_eq
 have h1:=m.hx
 have h2:=m.hy
 simp only[AR,B4,A5,D9] at e
 lia
end
open PySem PyProof.Rows
section
variable  {prog:Bi}{w:BQ}{A:Cc}{E:AS->A1->Prop}{s:A1}{O:Fw}{key:Bp->O.α}{U:Bp->Prop}{κ:SortKind}
abbrev HiC:=Option (Array Bp)×Nat×Nat×Array Bp×Nat×Nat×Nat
def xF (a b:Array Bp)(x y:Nat)(o:Array Bp)(mg ac bc:Nat):StateT BO Sem (ForInStep HiC):=do
  let z ← elem' a (x-1)
  if (x-1 == 0)=true then pure (.done (some (a.extract 0 (x-1)++b.extract 0 y++(o.push z).reverse),x-1,y,o.push z,mg,ac,bc))
  else if (decide (ac<7) && decide (bc<7))=true then pure (.done (none,x-1,y,o.push z,mg,ac,bc))
  else pure (.yield (none,x-1,y,o.push z,mg,ac,bc))
def xG (a b:Array Bp)(x y:Nat)(o:Array Bp)(mg ac bc:Nat):StateT BO Sem (ForInStep HiC):=do
  let z ← elem' b (y-1)
  if (y-1 == 1)=true then pure (.done (some (b.extract 0 (y-1)++a.extract 0 x++(o.push z).reverse),x,y-1,o.push z,mg,ac,bc))
  else do
    let z2 ← elem' a (x-1)
    let __x ← gal true z2 b 0 (y-1) (y-1-1)
    match __x with
    | some c =>
      if y-1-c>0 then
        if (c == 1)=true then pure (.done (some (b.extract 0 c++a.extract 0 x++(o.push z++(b.extract c (y-1)).reverse).reverse),x,c,o.push z++(b.extract c (y-1)).reverse,mg,ac,y-1-c))
        else if (c == 0)=true then pure (.done (some (a.extract 0 x++b.extract 0 c++(o.push z++(b.extract c (y-1)).reverse).reverse),x,c,o.push z++(b.extract c (y-1)).reverse,mg,ac,y-1-c))
        else xF a b x c (o.push z++(b.extract c (y-1)).reverse) mg ac (y-1-c)
      else xF a b x (y-1) (o.push z) mg ac (y-1-c)
    | _=>pure (.done (some (a.extract 0 x++b.extract 0 (y-1)++(o.push z).reverse),x,y-1,o.push z,mg,ac,bc))
def uv (a b:Array Bp)(x y:Nat)(p:Array Bp)(ac bc mg:Nat):StateT BO Sem (ForInStep HiC):=do
  modify (λs=>SortSt.mk' (kindOf s) (Bx s) (BI s) mg (failedOf s))
  let z ← elem' b (y-1)
  let __x ← gal false z a 0 x (x-1)
  match __x with
  | some c =>
    if x-c>0 then
      if (c == 0)=true then pure (.done (some (a.extract 0 c++b.extract 0 y++(p++(a.extract c x).reverse).reverse),c,y,p++(a.extract c x).reverse,mg,x-c,bc))
      else xG a b c y (p++(a.extract c x).reverse) mg (x-c) bc
    else xG a b x y p mg (x-c) bc
  | _=>pure (.done (some (a.extract 0 x++b.extract 0 y++p.reverse),x,y,p,mg,ac,bc))
def HiQ (key:Bp->O.α)(a b:Array Bp)(st:BO)(n:Nat)(r:ForInStep HiC)(st':BO):Prop:=match r with
 | .done c=>Sm st st'/\((∃r x y p mg ac bc,c=(some r,x,y,p,mg,ac,bc)/\dI key a b r)\/∃x y p mg ac bc,c=(none,x,y,p,mg,ac,bc)/\MV key a b p x y/\1<=x/\2<=y/\n<=p.size)
 | .yield c=>Sm st st'/\∃x y p mg ac bc,c=(none,x,y,p,mg,ac,bc)/\MV key a b p x y/\1<=x/\2<=y/\n<=p.size
theorem HiQ.out {a b:Array Bp}{st st':BO}{n:Nat}{r:Array Bp}{c:Nat×Nat×Array Bp×Nat×Nat×Nat}(sm:Sm st st')(f:dI key a b r):HiQ key a b st n (.done (some r,c)) st':=by
 obtain ⟨p,x,y,mg,ac,bc⟩:=c
 exact ⟨sm,.inl ⟨_,_,_,_,_,_,_,rfl,f⟩⟩
theorem vP {x:Nat}(c:¬ (x == 0)=true):1<=x:=Nat.pos_of_ne_zero λz=>c (beq_iff_eq.mpr z)
theorem xH {y:Nat}(h:1<=y)(c:¬ (y == 1)=true):2<=y:=Hv h λz=>c (beq_iff_eq.mpr z.symm)
theorem r9 {a b:Array Bp}{st st':BO}(hb:b.toList.Pairwise (Le key))
  {o:Array Bp} {x y mg ac bc n:Nat} {za:Bp} (sm:Sm st st') (ea:a[x-1]? = some za) (m4:MV key a b (o.push za) (x-1) y) (hy:2<=y) (hn:n<=o.size):wpS (BJ prog w) A E s (xF a b x y o mg ac bc) (HiQ key a b st n) st':=by
 unfold xF
 refine Bg (aU ea ?_)
 by_cases d5:(x-1 == 0)=true
 ·rw[if_pos d5]
  exact Bq (HiQ.out sm (m4.um hb (beq_iff_eq.mp d5)))
 rw[if_neg d5]
 have hx2:=vP d5
 have hn':n<=(o.push za).size:=by rw[DV];exact DW hn
 split
 ·exact Bq ⟨sm,.inr ⟨_,_,_,_,_,_,rfl,m4,hx2,hy,hn'⟩⟩
 ·exact Bq ⟨sm,_,_,_,_,_,_,rfl,m4,hx2,hy,hn'⟩
theorem sd (C:Cmp prog w A s O key U κ){a b:Array Bp}{st st':BO}(hκ:kindOf st=κ)(ua:∀p∈a.toList,U p)(ub:∀p∈b.toList,U p)
  (ha:a.toList.Pairwise (Le key)) (hb:b.toList.Pairwise (Le key)) (h0:∀p q,b[0]? = some p->q∈a.toList->Le key p q)
  {o:Array Bp} {x y mg ac bc n:Nat} {zb:Bp} (sm:Sm st st') (eb:b[y-1]? = some zb) (mk:MV key a b o x y) (bl:∀t∈a.toList.take x,Le key t zb) (hx1:1<=x) (hy:2<=y) (hn:n<=o.size):wpS (BJ prog w) A E s (xG a b x y o mg ac bc) (HiQ key a b st n) st':=by
 unfold xG
 refine Bg (aU eb ?_)
 have m2:=mk.mW (HV hy) eb hb bl
 have y1:1<=y-1:=DA hy
 have bx1:=mk.hx
 have by1:=mk.hy
 by_cases d3:(y-1 == 1)=true
 ·rw[if_pos d3]
  exact Bq (HiQ.out sm (m2.first ha hb (beq_iff_eq.mp d3) h0))
 rw[if_neg d3]
 have hy1:=xH y1 d3
 obtain ⟨za,ea⟩:=aV (show x-1<a.size by lia)
 refine Bg (aU ea ?_)
 refine Bg (zC C (λi=>(b[i]?).getD za) (sm.k.trans hκ) (ua _ (bI ea)) (λi hi =>?_) (λi hi =>?_) (λi j hij hj =>?_) (Fu y1) λc2 hc2 g1 g2 =>?_)
 ·obtain ⟨z,e⟩:=aV (show i<b.size by lia)
  rw[DN,e];rfl
 ·obtain ⟨z,e⟩:=aV (show i<b.size by lia)
  rw[e];exact ub _ (bI e)
 ·obtain ⟨z,e⟩:=aV (show i<b.size by lia)
  obtain ⟨z',e'⟩:=aV (show j<b.size by lia)
  rw[e,e'];exact aI hb (aF e) (aF e') hij
 dsimp only at g1 g2 ⊢
 have tb:∀j q,c2<=j->j<y-1->b.toList[j]? = some q->∀t∈a.toList.take x,Le key t q:=λj q hj hj2 e t ht=>by
  have z:=g2 j hj hj2
  rw[A9] at e
  rw[e] at z
  obtain ⟨n,hn,e2⟩:=aW ht
  exact B0 (aI ha e2 (aF ea) (DA hn)) z
 have m3:=m2.vM hc2 hb tb
 have bl2:∀t∈b.toList.take c2,Le key t za:=λt ht=>by
  obtain ⟨n,hn,e2⟩:=aW ht
  rw[A9] at e2
  have z:=g1 n hn
  rw[e2] at z
  exact CJ z
 have hn1:n<=(o.push zb).size:=by rw[DV];exact DW hn
 by_cases k2:y-1-c2>0
 ·rw[if_pos k2]
  by_cases d4:(c2 == 1)=true
  ·rw[if_pos d4]
   exact Bq (HiQ.out sm (m3.first ha hb (beq_iff_eq.mp d4) h0))
  rw[if_neg d4]
  by_cases d6:(c2 == 0)=true
  ·rw[if_pos d6]
   exact Bq (HiQ.out sm (m3.uh ha (beq_iff_eq.mp d6)))
  rw[if_neg d6]
  exact r9 hb sm ea (m3.jV hx1 ea ha bl2) (xH (vP d6) d4) (BL hn1 (by rw[Em];exact Dv _ _))
 ·rw[if_neg k2]
  have ec2:c2=y-1:=ES hc2 (GL (Ef k2))
  rw[ec2] at bl2
  exact r9 hb sm ea (m2.jV hx1 ea ha bl2) hy1 hn1
theorem sf (C:Cmp prog w A s O key U κ){a b:Array Bp}{st st':BO}(hκ:kindOf st=κ)(ua:∀p∈a.toList,U p)(ub:∀p∈b.toList,U p)
  (ha:a.toList.Pairwise (Le key)) (hb:b.toList.Pairwise (Le key)) (h0:∀p q,b[0]? = some p->q∈a.toList->Le key p q)
  {p:Array Bp} {x y ac bc n:Nat} (mg:Nat) (sm:Sm st st') (m:MV key a b p x y) (hx:1<=x) (hy:2<=y) (hn:n<=p.size):wpS (BJ prog w) A E s (uv a b x y p ac bc mg) (HiQ key a b st n) st':=by
 unfold uv
 have bx:=m.hx
 have by':=m.hy
 obtain ⟨zb,eb⟩:=aV (show y-1<b.size by lia)
 refine Bg (DG ?_)
 refine Bg (aU eb ?_)
 refine Bg (zB C (λi=>(a[i]?).getD zb) ((sm.mg _).k.trans hκ) (ub _ (bI eb)) (λi hi =>?_) (λi hi =>?_) (λi j hij hj =>?_) (Fu hx) λc hc h1 h2 =>?_)
 ·obtain ⟨z,e⟩:=aV (Bm hi bx)
  rw[DN,e];rfl
 ·obtain ⟨z,e⟩:=aV (Bm hi bx)
  rw[e];exact ua _ (bI e)
 ·obtain ⟨z,e⟩:=aV (show i<a.size by lia)
  obtain ⟨z',e'⟩:=aV (show j<a.size by lia)
  rw[e,e'];exact aI ha (aF e) (aF e') hij
 dsimp only at h1 h2 ⊢
 have ta:∀j q,c<=j->j<x->a.toList[j]? = some q->∀t∈b.toList.take y,Le key t q:=λj q hj hj2 e t ht=>by
  have z:=h2 j hj hj2
  rw[A9] at e
  rw[e] at z
  obtain ⟨n,hn,e2⟩:=aW ht
  exact B0 (aI hb e2 (aF eb) (DA hn)) (CJ z)
 have mk:=m.vL hc ha ta
 have bl:∀t∈a.toList.take c,Le key t zb:=λt ht=>by
  obtain ⟨n,hn,e2⟩:=aW ht
  rw[A9] at e2
  have z:=h1 n hn
  rw[e2] at z
  exact z
 by_cases k0:x-c>0
 ·rw[if_pos k0]
  by_cases d1:(c == 0)=true
  ·rw[if_pos d1]
   exact Bq (HiQ.out (sm.mg _) (mk.um hb (beq_iff_eq.mp d1)))
  rw[if_neg d1]
  exact sd C hκ ua ub ha hb h0 (sm.mg _) eb mk bl (vP d1) hy (BL hn (by rw[Em];exact Dv _ _))
 ·rw[if_neg k0]
  have ec:c=x:=ES hc (GL (Ef k0))
  rw[ec] at bl
  exact sd C hκ ua ub ha hb h0 (sm.mg _) eb m bl hx hy hn
theorem xI (C:Cmp prog w A s O key U κ){a b:Array Bp}{st st':BO}(hκ:kindOf st=κ)(ua:∀p∈a.toList,U p)(ub:∀p∈b.toList,U p)
  (ha:a.toList.Pairwise (Le key)) (hb:b.toList.Pairwise (Le key)) (h0:∀p q,b[0]? = some p->q∈a.toList->Le key p q)
  {p:Array Bp} {x y ac bc n mg:Nat} (sm:Sm st st') (m:MV key a b p x y) (hx:1<=x) (hy:2<=y) (hn:n<=p.size):wpS (BJ prog w) A E s (if mg>1 then uv a b x y p ac bc (mg-1) else uv a b x y p ac bc mg) (HiQ key a b st n) st':=by
 split
 ·exact sf C hκ ua ub ha hb h0 (mg-1) sm m hx hy hn
 ·exact sf C hκ ua ub ha hb h0 mg sm m hx hy hn
abbrev HiD:=Option (Array Bp)×Nat×Nat×Array Bp×Nat×Nat
abbrev HiE:=Option (Array Bp)×Nat×Nat×Array Bp×Nat
def vQ (a b:Array Bp)(mg:Nat)(c:HiD):StateT BO Sem (ForInStep HiD):=do
  let u ← elem' b (c.2.2.1-1)
  let v ← elem' a (c.2.1-1)
  let __x ← lt' u v
  match __x with
  | some aw =>
    if aw=true then do
      let z ← elem' a (c.2.1-1)
      if (c.2.1-1 == 0)=true then pure (.done (some (a.extract 0 (c.2.1-1)++b.extract 0 c.2.2.1++(c.2.2.2.1.push z).reverse),c.2.1-1,c.2.2.1,c.2.2.2.1.push z,c.2.2.2.2.1+1,0))
      else if c.2.2.2.2.1+1≥mg then pure (.done (none,c.2.1-1,c.2.2.1,c.2.2.2.1.push z,c.2.2.2.2.1+1,0))
      else pure (.yield (none,c.2.1-1,c.2.2.1,c.2.2.2.1.push z,c.2.2.2.2.1+1,0))
    else do
      let z ← elem' b (c.2.2.1-1)
      if (c.2.2.1-1 == 1)=true then pure (.done (some (b.extract 0 (c.2.2.1-1)++a.extract 0 c.2.1++(c.2.2.2.1.push z).reverse),c.2.1,c.2.2.1-1,c.2.2.2.1.push z,0,c.2.2.2.2.2+1))
      else if c.2.2.2.2.2+1≥mg then pure (.done (none,c.2.1,c.2.2.1-1,c.2.2.2.1.push z,0,c.2.2.2.2.2+1))
      else pure (.yield (none,c.2.1,c.2.2.1-1,c.2.2.2.1.push z,0,c.2.2.2.2.2+1))
  | _=>pure (.done (some (a.extract 0 c.2.1++b.extract 0 c.2.2.1++c.2.2.2.1.reverse),c.2.1,c.2.2.1,c.2.2.2.1,c.2.2.2.2.1,c.2.2.2.2.2))
def zF (a b:Array Bp)(c:HiC):StateT BO Sem (ForInStep HiC) :=
 if c.2.2.2.2.1>1 then uv a b c.2.1 c.2.2.1 c.2.2.2.1 c.2.2.2.2.2.1 c.2.2.2.2.2.2 (c.2.2.2.2.1-1) else uv a b c.2.1 c.2.2.1 c.2.2.2.1 c.2.2.2.2.2.1 c.2.2.2.2.2.2 c.2.2.2.2.1
def qC (a b:Array Bp)(c:HiE):StateT BO Sem (ForInStep HiE):=do
  let d ← forIn [0:a.size+b.size] ((none,c.2.1,c.2.2.1,c.2.2.2.1,0,0):HiD) λ_ d=>vQ a b c.2.2.2.2 d
  match d.1 with
  | some r=>pure (.done (some r,d.2.1,d.2.2.1,d.2.2.2.1,c.2.2.2.2))
  | none=>do
    rule "list.sort.gallop"
    let e ← forIn [0:a.size+b.size] ((none,d.2.1,d.2.2.1,d.2.2.2.1,c.2.2.2.2+1,d.2.2.2.2.1,d.2.2.2.2.2):HiC) λ_ e=>zF a b e
    match e.1 with
    | some r=>pure (.done (some r,e.2.1,e.2.2.1,e.2.2.2.1,e.2.2.2.2.1))
    | none=>do
      modify (λs=>SortSt.mk' (kindOf s) (Bx s) (BI s) (e.2.2.2.2.1+1) (failedOf s))
      pure (.yield (none,e.2.1,e.2.2.1,e.2.2.2.1,e.2.2.2.2.1+1))
theorem xJ (a b:Array Bp):mHi a b=(do
    rule "list.sort.merge-hi"
    let z ← elem' a (a.size-1)
    if (a.size-1 == 0)=true then pure (a.extract 0 (a.size-1)++b.extract 0 b.size++(#[z]:Array Bp).reverse)
    else if (b.size == 1)=true then pure (b.extract 0 b.size++a.extract 0 (a.size-1)++(#[z]:Array Bp).reverse)
    else do
      let g ← get
      let c ← forIn [0:a.size+b.size] ((none,a.size-1,b.size, #[z],gallopOf g):HiE) λ_ c=>qC a b c
      match c.1 with
      | some r=>pure r
      | none=>unsupported "internal:list.sort.merge-bound"):=by
  kernel_rfl
def HdI (key:Bp->O.α)(a b:Array Bp)(st:BO)(n:Nat)(c:HiD)(st':BO):Prop:=Sm st st'/\∃x y o' ac bc,c=(none,x,y,o',ac,bc)/\MV key a b o' x y/\1<=x/\2<=y/\n<=o'.size
def HdQ (key:Bp->O.α)(a b:Array Bp)(st:BO)(n:Nat)(c:HiD)(st':BO):Prop:=Sm st st'/\((∃r x y o ac bc,c=(some r,x,y,o,ac,bc)/\dI key a b r)\/∃x y o' ac bc,c=(none,x,y,o',ac,bc)/\MV key a b o' x y/\1<=x/\2<=y/\n<=o'.size)
theorem vR (C:Cmp prog w A s O key U κ){a b:Array Bp}{st st':BO}(hκ:kindOf st=κ)(ua:∀p∈a.toList,U p)(ub:∀p∈b.toList,U p)
  (ha:a.toList.Pairwise (Le key)) (hb:b.toList.Pairwise (Le key)) (h0:∀p q,b[0]? = some p->q∈a.toList->Le key p q)
  {mg n m':Nat} {c:HiD} (I:HdI key a b st n c st') (hm:m'<=n+1) {Q:ForInStep HiD->BO->Prop} (h:∀r st',(match r with | .done c'=>HdQ key a b st (n+1) c' st' | .yield c'=>HdI key a b st m' c' st')->Q r st'):wpS (BJ prog w) A E s (vQ a b mg c) Q st':=by
 obtain ⟨sm2,x,y,o',ac,bc,rfl,m,hx,hy,hz⟩:=I
 unfold vQ
 have bx:=m.hx
 have by':=m.hy
 obtain ⟨za,ea⟩:=aV (show x-1<a.size by omega)
 obtain ⟨zb,eb⟩:=aV (show y-1<b.size by omega)
 refine Bg (aU eb (Bg (aU ea (Bg (C.lt _ st' zb za _ (sm2.k.trans hκ) (ub _ (bI eb)) (ua _ (bI ea)) ?_)))))
 dsimp only
 have sz:∀z,n+1<=(o'.push z).size:=λz=>by rw[DV];exact Gp hz
 cases hlt:O.blt (key zb) (key za) with
 | true =>
  rw[if_pos rfl]
  refine Bg (aU ea ?_)
  have m1:=m.jV hx ea ha λt ht=>by
   obtain ⟨n,hn,e⟩:=aW ht
   exact B0 (aI hb e (aF eb) (DA hn)) (CJ hlt)
  by_cases c3:(x-1 == 0)=true
  ·rw[if_pos c3]
   exact Bq (h _ _ ⟨sm2,.inl ⟨_,_,_,_,_,_,rfl,m1.um hb (beq_iff_eq.mp c3)⟩⟩)
  ·rw[if_neg c3]
   have c3':=vP c3
   split
   ·exact Bq (h _ _ ⟨sm2,.inr ⟨_,_,_,_,_,rfl,m1,c3',hy,sz _⟩⟩)
   ·exact Bq (h _ _ ⟨sm2,_,_,_,_,_,rfl,m1,c3',hy,BL hm (sz _)⟩)
 | false =>
  rw[if_neg Bf]
  refine Bg (aU eb ?_)
  have m1:=m.mW (HV hy) eb hb λt ht=>by
   obtain ⟨n,hn,e⟩:=aW ht
   exact B0 (aI ha e (aF ea) (DA hn)) (show O.kle (key za) (key zb) from hlt)
  by_cases c3:(y-1 == 1)=true
  ·rw[if_pos c3]
   exact Bq (h _ _ ⟨sm2,.inl ⟨_,_,_,_,_,_,rfl,m1.first ha hb (beq_iff_eq.mp c3) h0⟩⟩)
  ·rw[if_neg c3]
   have c3':=xH (DA hy) c3
   split
   ·exact Bq (h _ _ ⟨sm2,.inr ⟨_,_,_,_,_,rfl,m1,hx,c3',sz _⟩⟩)
   ·exact Bq (h _ _ ⟨sm2,_,_,_,_,_,rfl,m1,hx,c3',BL hm (sz _)⟩)
def HeI (key:Bp->O.α)(a b:Array Bp)(st:BO)(n:Nat)(c:HiE)(st':BO):Prop:=Sm st st'/\∃x y o mg,c=(none,x,y,o,mg)/\MV key a b o x y/\1<=x/\2<=y/\n+1<=o.size
def HeQ (key:Bp->O.α)(a b:Array Bp)(st:BO)(c:HiE)(st':BO):Prop:=Sm st st'/\((∃r x y o mg,c=(some r,x,y,o,mg)/\dI key a b r)\/∃x y o mg,c=(none,x,y,o,mg)/\MV key a b o x y/\1<=x/\2<=y/\a.size+b.size+1<=o.size)
theorem uw (C:Cmp prog w A s O key U κ){a b:Array Bp}{st st':BO}(hκ:kindOf st=κ)(ua:∀p∈a.toList,U p)(ub:∀p∈b.toList,U p)
  (ha:a.toList.Pairwise (Le key)) (hb:b.toList.Pairwise (Le key)) (h0:∀p q,b[0]? = some p->q∈a.toList->Le key p q) (na:0<a.size)
  {n:Nat} {c:HiE} (I:HeI key a b st n c st'):wpS (BJ prog w) A E s (qC a b c) (λr st'=>match r with | .done c'=>HeQ key a b st c' st' | .yield c'=>HeI key a b st (n+1) c' st') st':=by
 obtain ⟨sm1,x,y,o,mg,rfl,m,hx,hy,hz⟩:=I
 unfold qC
 have q1:1<=a.size+b.size:=BL na (Dv _ _)
 refine Bg (Dn (CC (I:=λj c st'=>HdI key a b st (o.size+min j 1) c st') (Q:=HdQ key a b st (o.size+1)) (λj c st2 _ hj J=>vR (n:=o.size+min j 1) (m':=o.size+min (j+1) 1) C hκ ua ub ha hb h0 J (by lia) λr st' k =>?_) (λc st' J =>?_) ⟨sm1,x,y,o,0,0,rfl,m,hx,hy,AY _⟩) ?_)
 ·cases r with
  | done c'=>exact k.imp id λz=>z.imp id λ⟨x,y,o',ac,bc,e,m,hx,hy,hz⟩=>⟨x,y,o',ac,bc,e,m,hx,hy,by lia⟩
  | yield c'=>exact k
 ·obtain ⟨sm,x,y,o',ac,bc,e,m,hx,hy,hz⟩:=J
  exact ⟨sm,.inr ⟨x,y,o',ac,bc,e,m,hx,hy,by lia⟩⟩
 rintro c st2 ⟨sm2,⟨r,x,y,o',ac,bc,rfl,fr⟩ | ⟨x,y,o',ac,bc,rfl,m,hx,hy,hz2⟩⟩
 ·exact Bq ⟨sm2,.inl ⟨_,_,_,_,_,rfl,fr⟩⟩
 dsimp only
 refine Bg (Gm (D3 ⟨rfl,?_⟩))
 refine Bg (Dn (CC (I:=λ_ c st'=>HiQ key a b st o'.size (.yield c) st') (Q:=λc st'=>HiQ key a b st o'.size (.done c) st') (λj c st3 _ hj J =>?_) (λc st' J=>⟨J.1,.inr J.2⟩) ⟨sm2,x,y,o',_,ac,bc,rfl,m,hx,hy,AY _⟩) ?_)
 ·obtain ⟨sm3,x,y,p,mg,ac,bc,rfl,m,hx,hy,hz3⟩:=J
  refine Dn (xI C hκ ua ub ha hb h0 sm3 m hx hy hz3) ?_
  intro r st' h
  cases r <;> exact h
 rintro c st3 ⟨sm3,⟨r,x,y,p,mg,ac,bc,rfl,fr⟩ | ⟨x,y,p,mg,ac,bc,rfl,m,hx,hy,hz3⟩⟩
 ·exact Bq ⟨sm3,.inl ⟨_,_,_,_,_,rfl,fr⟩⟩
 ·dsimp only
  exact Bg (DG (Bq ⟨sm3.mg _,x,y,p,_,rfl,m,hx,hy,by lia⟩))
theorem zG (C:Cmp prog w A s O key U κ){a b:Array Bp}{st:BO}{Q:Array Bp->BO->Prop}(hκ:kindOf st=κ)(ua:∀p∈a.toList,U p)(ub:∀p∈b.toList,U p)
  (ha:a.toList.Pairwise (Le key)) (hb:b.toList.Pairwise (Le key)) (na:0<a.size) (nb:0<b.size) (h0:∀p q,b[0]? = some p->q∈a.toList->Le key p q) (hl:∀p q,p∈b.toList->a[a.size-1]? = some q->Le key p q)
  (h:∀r st',Sm st st'->dI key a b r->Q r st'):wpS (BJ prog w) A E s (mHi a b) Q st:=by
 rw[xJ]
 refine Bg (Gm (D3 ⟨rfl,?_⟩))
 obtain ⟨a0,ea0⟩:=aV (Fu na)
 have m0:MV key a b #[] a.size b.size:=by
  refine ⟨AY _,AY _,?_,List.Pairwise.nil,λp _ q hq=>by cases hq⟩
  rw[Bb (by rw[A5];exact AY _),Bb (by rw[A5];exact AY _)]
  show (a.toList++b.toList++[]).Perm _
  rw[B7]
 have m1:MV key a b #[a0] (a.size-1) b.size:=m0.jV na ea0 ha λt ht=>hl t a0 (Dz ht) ea0
 refine Bg (aU ea0 ?_)
 by_cases c1:(a.size-1 == 0)=true
 ·rw[if_pos c1]
  exact Bq (h _ st (Sm.refl st) (m1.um hb (beq_iff_eq.mp c1)))
 rw[if_neg c1]
 by_cases c2:(b.size == 1)=true
 ·rw[if_pos c2]
  exact Bq (h _ st (Sm.refl st) (m1.first ha hb (beq_iff_eq.mp c2) h0))
 rw[if_neg c2]
 refine Bg (F1 ?_)
 refine Bg (Dn (CC (I:=λi c st'=>HeI key a b st i c st') (Q:=HeQ key a b st) (λi c st1 _ _ J=>Dn (uw C hκ ua ub ha hb h0 na J) λr st' h=>by cases r <;> exact h) (λc st' J =>?_) ⟨Sm.refl st,_,_,_,_,rfl,m1,vP c1,xH nb c2,AY _⟩) ?_)
 ·obtain ⟨sm,x,y,o,mg,e,m,hx,hy,hz⟩:=J
  exact ⟨sm,.inr ⟨x,y,o,mg,e,m,hx,hy,by lia⟩⟩
 rintro c st' ⟨sm,⟨r,x,y,o,mg,rfl,fr⟩ | ⟨x,y,o,mg,rfl,m,hx,hy,hz⟩⟩
 ·exact Bq (h r st' sm fr)
 ·have:=m.size
  lia
end
open PySem PyProof.Rows
theorem zI (i:Nat):mAt i=(do
    let s ← get
    let (some (sa,na,pw),some (sb,nb,_)):=((BI s)[i]?,(BI s)[i+1]?) | unsupported "internal:list.sort.pending"
    set (SortSt.mk' (kindOf s) (Bx s) (((BI s).setIfInBounds i (sa,na+nb,pw)).eraseIdxIfInBounds (i+1)) (gallopOf s) (failedOf s))
    let some k ← gal false (← elem' (Bx s) sb) (Bx s) sa na 0 | return false
    let (sa,na):=(sa+k,na-k)
    if na == 0 then return true
    let some nb ← gal true (← elem' (Bx s) (sa+na-1)) (Bx s) sb nb (nb-1) | return false
    if nb == 0 then return true
    let x:=(Bx s).extract sa sb
    let y:=(Bx s).extract sb (sb+nb)
    let mm ← if na<=nb then mLo x y else mHi x y
    modify λs=>setArr s (mm.toList.zipIdx.foldl (λa (p,j)=>a.setIfInBounds (sa+j) p) (Bx s))
    return (failedOf (← get)).isNone):=rfl
theorem iK {α:Type}(p r:List α)(k:Nat):(p++r).drop (p.length+k)=r.drop k:=by
 rw[<- IU,FY]
theorem qD {α:Type}(p r:List α)(k:Nat):(p++r)[p.length+k]? = r[k]? := by
 rw[BN (by lia),D8]
theorem yD {α:Type}(p a r:List α){k:Nat}(h:k<a.length):(p++(a++r))[p.length+k]? = a[k]? := by
 rw[qD,BK h]
theorem written (l:List Bp):∀(c n:Nat) (a:Array Bp),c+n+l.length<=a.size->((l.zipIdx n).foldl (λ(a:Array Bp) (pj:Bp×Nat)=>a.setIfInBounds (c+pj.2) pj.1) a).toList=a.toList.take (c+n)++l++a.toList.drop (c+n+l.length):=by
 induction l with
 | nil=>intro c n a _;simp
 | cons z l ih =>
  intro c n a h
  rw[BP] at h
  rw[List.zipIdx_cons,IA,ih c (n+1) _ (by rw[F6];lia)]
  have e:(a.setIfInBounds (c+n) z).toList=a.toList.set (c+n) z:=FI ..
  rw[e]
  have lt:c+n<a.toList.length:=by rw[A5];lia
  have t1:(a.toList.set (c+n) z).take (c+(n+1))=a.toList.take (c+n)++[z]:=by
   rw[show c+(n+1)=c+n+1 by lia,BG,List.take_set_of_le (AY _),Dj lt]
   rfl
  have t2:(a.toList.set (c+n) z).drop (c+(n+1)+l.length)=a.toList.drop (c+n+(l.length+1)):=by
   rw[List.drop_set_of_lt (by lia),show c+(n+1)+l.length=c+n+(l.length+1) by lia]
  rw[t1,t2,BP]
  simp
section
variable  {prog:Bi}{w:BQ}{A:Cc}{E:AS->A1->Prop}{s:A1}{O:Fw}{key:Bp->O.α}{U:Bp->Prop}{κ:SortKind}
theorem zJ (C:Cmp prog w A s O key U κ){i pw pw2:Nat}{st:BO}{Q:Bool->BO->Prop}{P X Y S:List Bp}(hκ:kindOf st=κ)(hf:failedOf st=none)
    (ha:(Bx st).toList=P++(X++(Y++S))) (hu:∀p∈(Bx st).toList,U p) (h1:(BI st)[i]? = some (P.length,X.length,pw)) (h2:(BI st)[i+1]? = some (P.length+X.length,Y.length,pw2))
    (nx:0<X.length) (ny:0<Y.length) (sx:X.Pairwise (Le key)) (sy:Y.Pairwise (Le key))
    (h:∀st' M,M.Perm (X++Y)->M.Pairwise (Le key)->(Bx st').toList=P++(M++S)->BI st'=((BI st).setIfInBounds i (P.length,X.length+Y.length,pw)).eraseIdxIfInBounds (i+1)->kindOf st'=κ -> failedOf st'=none->Q true st') :
    wpS (BJ prog w) A E s (mAt i) Q st:=by
  rw[zI]
  refine Bg (F1 ?_)
  rw[h1,h2]
  dsimp only
  refine Bg (show wpS (BJ prog w) A E s (modify λ_=>SortSt.mk' (kindOf st) (Bx st) (((BI st).setIfInBounds i (P.length,X.length+Y.length,pw)).eraseIdxIfInBounds (i+1)) (gallopOf st) (failedOf st)) _ st from DG ?_)
  generalize hst1:SortSt.mk' (kindOf st) (Bx st) (((BI st).setIfInBounds i (P.length,X.length+Y.length,pw)).eraseIdxIfInBounds (i+1)) (gallopOf st) (failedOf st)=st1
  have k1:kindOf st1=κ:=by rw[<- hst1];exact hκ
  have a1:Bx st1=Bx st:=by rw[<- hst1]
  have p1:BI st1=((BI st).setIfInBounds i (P.length,X.length+Y.length,pw)).eraseIdxIfInBounds (i+1):=by rw[<- hst1]
  have f1:failedOf st1=none:=by rw[<- hst1];exact hf
  have sz:(Bx st).size=P.length+X.length+Y.length+S.length:=by
    rw[<- A5,ha];simp only[AR];lia
  have atX:∀j,j<X.length->(Bx st)[P.length+j]? = X[j]? := λj hj=>by
    rw[<- A9,ha,yD _ _ _ hj]
  have atY:∀j,j<Y.length->(Bx st)[P.length+X.length+j]? = Y[j]? := λj hj=>by
    rw[<- A9,ha, <- BV,show P.length+X.length+j=(P++X).length+j by rw[AR],yD _ _ _ hj]
  have uX:∀p∈X,U p:=λp hp=>hu p (by rw[ha];simp[hp])
  have uY:∀p∈Y,U p:=λp hp=>hu p (by rw[ha];simp[hp])
  have xget:∀j,j<X.length->∃z,X[j]? = some z:=λj hj=>⟨X[j],by simp[hj]⟩
  have yget:∀j,j<Y.length->∃z,Y[j]? = some z:=λj hj=>⟨Y[j],by simp[hj]⟩
  obtain ⟨y0,ey0⟩:=yget 0 ny
  have plain:(∀p∈X,∀q∈Y,Le key p q)->Q true st1:=λhle=>h st1 (X++Y) (Eo _) (Cn.mpr ⟨sx,sy,hle⟩) (by rw[a1,ha,BV]) p1 k1 f1
  refine Bg (aU (z:=y0) (by rw[show P.length+X.length=P.length+X.length+0 by lia,atY 0 ny];exact ey0) ?_)
  refine Bg (zB C (λj=>(X[j]?).getD y0) k1 (uY _ (A8 ey0)) (λj hj =>?_) (λj hj =>?_) (λi j hij hj =>?_) nx λk hk g1 g2 =>?_)
  · obtain ⟨z,e⟩:=xget j hj
    rw[atX j hj,e];rfl
  · obtain ⟨z,e⟩:=xget j hj
    rw[e];exact uX _ (A8 e)
  · obtain ⟨z,e⟩:=xget i (by lia)
    obtain ⟨z',e'⟩:=xget j hj
    rw[e,e'];exact aI sx e e' hij
  dsimp only at g1 g2 ⊢
  have y0le:∀q∈Y,Le key y0 q:=λq hq=>by
    obtain ⟨n,e⟩:=Bj.mp hq
    exact aI sy ey0 e (BX _)
  by_cases c1:(X.length-k == 0)=true
  · rw[if_pos c1]
    refine Bq (plain λp hp q hq =>?_)
    obtain ⟨n,e⟩:=Bj.mp hp
    have hn:n<X.length:=(AW.mp e).1
    have z:=g1 n (by have:=beq_iff_eq.mp c1;lia)
    rw[e] at z
    exact B0 z (y0le q hq)
  rw[if_neg c1]
  have kx:k<X.length:=by have:X.length-k≠0:=λz=>c1 (beq_iff_eq.mpr z);lia
  obtain ⟨xl,exl⟩:=xget (X.length-1) (by lia)
  have xlle:∀p∈X,Le key p xl:=λp hp=>by
    obtain ⟨n,e⟩:=Bj.mp hp
    have hn:n<X.length:=(AW.mp e).1
    exact aI sx e exl (by lia)
  refine Bg (aU (z:=xl) (by rw[show P.length+k+(X.length-k)-1=P.length+(X.length-1) by lia,atX _ (by lia)];exact exl) ?_)
  refine Bg (zC C (λj=>(Y[j]?).getD xl) k1 (uX _ (A8 exl)) (λj hj =>?_) (λj hj =>?_) (λi j hij hj =>?_) (by lia) λm hm e1 e2 =>?_)
  · obtain ⟨z,e⟩:=yget j hj
    rw[atY j hj,e];rfl
  · obtain ⟨z,e⟩:=yget j hj
    rw[e];exact uY _ (A8 e)
  · obtain ⟨z,e⟩:=yget i (by lia)
    obtain ⟨z',e'⟩:=yget j hj
    rw[e,e'];exact aI sy e e' hij
  dsimp only at e1 e2 ⊢
  by_cases c2:(m == 0)=true
  · rw[if_pos c2]
    refine Bq (plain λp hp q hq =>?_)
    obtain ⟨n,e⟩:=Bj.mp hq
    have hn:n<Y.length:=(AW.mp e).1
    have z:=e2 n (by have:=beq_iff_eq.mp c2;lia) hn
    rw[e] at z
    exact B0 (xlle p hp) z
  rw[if_neg c2]
  have m0:0<m:=by have:m≠0:=λz=>c2 (beq_iff_eq.mpr z);lia
  have ex:((Bx st).extract (P.length+k) (P.length+X.length)).toList=X.drop k:=by
    rw[Dy,CV,ha,iK,Fl (by lia)]
    rw[List.take_left' (by rw[Co];lia)]
  have ey:((Bx st).extract (P.length+X.length) (P.length+X.length+m)).toList=Y.take m:=by
    have e:=iK (P++X) (Y++S) 0
    rw[AR,Nat.add_zero,Ep,BV] at e
    rw[Dy,CV,ha,e,D8,CG hm]
  have sX:((Bx st).extract (P.length+k) (P.length+X.length)).size=X.length-k:=by rw[<- A5,ex,Co]
  have sY:((Bx st).extract (P.length+X.length) (P.length+X.length+m)).size=m:=by rw[<- A5,ey,B4];lia
  generalize (Bx st).extract (P.length+k) (P.length+X.length)=xa at ex sX ⊢
  generalize (Bx st).extract (P.length+X.length) (P.length+X.length+m)=ya at ey sY ⊢
  have xa0:∀q∈xa.toList,Le key y0 q:=λq hq=>by
    rw[ex] at hq
    obtain ⟨n,hn,e⟩:=aT hq
    have hn2:n<X.length:=(AW.mp e).1
    have z:=g2 n hn hn2
    rw[e] at z
    exact CJ z
  have yaL:∀p∈ya.toList,Le key p xl:=λp hp=>by
    rw[ey] at hp
    obtain ⟨n,hn,e⟩:=aW hp
    have z:=e1 n hn
    rw[e] at z
    exact CJ z
  have first:∀p q,ya[0]? = some p->q∈xa.toList->Le key p q:=λp q hp hq=>by
    rw[<- A9,ey,Dd,if_pos m0,ey0] at hp
    cases hp
    exact xa0 q hq
  have lst:∀p q,p∈ya.toList->xa[xa.size-1]? = some q->Le key p q:=λp q hp hq=>by
    rw[<- A9,ex,Dc,sX,show k+(X.length-k-1)=X.length-1 by lia,exl] at hq
    cases hq
    exact yaL p hp
  have sxa:xa.toList.Pairwise (Le key):=by rw[ex];exact sx.sublist (Cw _ _)
  have sya:ya.toList.Pairwise (Le key):=by rw[ey];exact sy.sublist (CH _ _)
  have uxa:∀p∈xa.toList,U p:=λp hp=>by rw[ex] at hp;exact uX p (En hp)
  have uya:∀p∈ya.toList,U p:=λp hp=>by rw[ey] at hp;exact uY p (Dz hp)
  have post:∀r st',Sm st1 st'->dI key xa ya r->wpS (BJ prog w) A E s (do modify λs=>setArr s (r.toList.zipIdx.foldl (λa (p,j)=>a.setIfInBounds (P.length+k+j) p) (Bx s));return (failedOf (← get)).isNone) Q st':=by
    rintro r st' sm ⟨fp,fs⟩
    refine Bg (DG (Bg (F1 (Bq ?_))))
    have rl:r.toList.length=X.length-k+m:=by rw[fp.length_eq,AR,A5,A5,sX,sY]
    have wr:=written r.toList (P.length+k) 0 (Bx st') (by rw[sm.a,a1,sz,rl];lia)
    have e:(failedOf (setArr st' (r.toList.zipIdx.foldl (λa (p,j)=>a.setIfInBounds (P.length+k+j) p) (Bx st')))).isNone=true:=by
      show (failedOf st').isNone=true
      rw[sm.f,f1];rfl
    rw[e]
    have t1:(P++(X++(Y++S))).take (P.length+k+0)=P++X.take k:=by
      rw[Nat.add_zero,List.take_append,Bb (by lia),D8,CG (by lia)]
    have t2:(P++(X++(Y++S))).drop (P.length+k+0+r.toList.length)=Y.drop m++S:=by
      rw[rl,show P.length+k+0+(X.length-k+m)=P.length+(X.length+m) by lia,iK,iK,Fl hm]
    have perm:(X.take k++(r.toList++Y.drop m)).Perm (X++Y):=by
      rw[ex,ey] at fp
      have q:(X.take k++(r.toList++Y.drop m)).Perm (X.take k++((X.drop k++Y.take m)++Y.drop m)):=C0 _ (DK _ fp)
      have e3:X.take k++((X.drop k++Y.take m)++Y.drop m)=X++Y:=by
        rw[BV (X.drop k),C1, <- BV,C1]
      rw[e3] at q
      exact q
    have inr:∀z∈r.toList,z∈X.drop k\/z∈Y.take m:=λz hz=>by
      have q:=fp.mem_iff.mp hz
      rw[ex,ey] at q
      exact A7.mp q
    refine h _ (X.take k++(r.toList++Y.drop m)) perm ?_ ?_ ?_ (sm.k.trans k1) (sm.f.trans f1)
    · refine Cn.mpr ⟨sx.sublist (CH _ _),Cn.mpr ⟨fs,sy.sublist (Cw _ _),λp hp q hq =>?_⟩,λp hp q hq =>?_⟩
      · obtain ⟨n,hn,en⟩:=aT hq
        have hn2:n<Y.length:=(AW.mp en).1
        rcases inr p hp with z | z
        · have g:=e2 n hn hn2
          rw[en] at g
          exact B0 (xlle p (En z)) g
        · obtain ⟨j,hj,ej⟩:=aW z
          exact aI sy ej en (by lia)
      · obtain ⟨n,hn,en⟩:=aW hp
        have g:=g1 n hn
        rw[en] at g
        rcases A7.mp hq with z | z
        · rcases inr q z with z | z
          · obtain ⟨j,hj,ej⟩:=aT z
            exact aI sx en ej (by lia)
          · exact B0 g (y0le q (Dz z))
        · exact B0 g (y0le q (En z))
    · show (r.toList.zipIdx.foldl (λa (p,j)=>a.setIfInBounds (P.length+k+j) p) (Bx st')).toList=_
      rw[wr,sm.a,a1,ha,t1,t2]
      simp only[BV]
    · show BI st'=_
      rw[sm.p,p1]
  by_cases c3:X.length-k<=m
  · rw[if_pos c3]
    exact Bg (zE C k1 uxa uya sxa sya (by lia) (by lia) (λp q hp hq=>first p q hp (bI hq)) lst λr st' sm fr=>post r st' sm fr)
  · rw[if_neg c3]
    exact Bg (zG C k1 uxa uya sxa sya (by lia) (by lia) first lst λr st' sm fr=>post r st' sm fr)
end
open PySem PyProof.Rows
theorem xK (lo m:Nat):zz lo m=(do
    let mut n:=1
    for _ in [1:m] do
      let some sm ← ltAt' (lo+n) (lo+n-1)
        | return none
      if sm then break
      n:=n+1
    if n == m then return some n
    if n>1 then
      let some ro ← ltAt' lo (lo+n-1)
        | return none
      if ro then return some n
      reverseSlice' lo (lo+n)
    rule "list.sort.descending-run"
    n:=n+1
    let mut q:=0
    for _ in [n:m] do
      let some sm ← ltAt' (lo+n) (lo+n-1)
        | return none
      if sm then
        if q>0 then reverseSlice' (lo+n-(q+1)) (lo+n)
        q:=0
      else
        let some lg ← ltAt' (lo+n-1) (lo+n)
          | return none
        if lg then break
        q:=q+1
      n:=n+1
    if q>0 then reverseSlice' (lo+n-(q+1)) (lo+n)
    reverseSlice' lo (lo+n)
    for _ in [n:m] do
      let some sm ← ltAt' (lo+n) (lo+n-1)
        | return none
      if sm then break
      n:=n+1
    return some n):=rfl
theorem vS (lo n ok:Nat):vJ lo n ok=(do
    for k in [max ok 1:n] do
      let mut l:=0;let mut r:=k
      for _ in [0:k] do
        if l≥r then break
        let m:=(l+r)/2
        let some le ← ltAt' (lo+k) (lo+m)
          | return false
        if le then r:=m else l:=m+1
      moveDown' (lo+k) (lo+l)
    return true):=rfl
section
variable  {O:Fw}(key:Bp->O.α)
def kk (xs:Array Bp)(i:Nat):O.α:=key ((xs[i]?).getD (DM,DM))
def Up (xs:Array Bp)(lo n:Nat):Prop:=∀i j,lo<=i->i<=j->j<lo+n->O.kle (kk key xs i) (kk key xs j)
def Down (xs:Array Bp)(lo n:Nat):Prop:=∀i j,lo<=i->i<=j->j<lo+n->O.kle (kk key xs j) (kk key xs i)
variable  {key}
theorem iL {xs ys:Array Bp}{i j:Nat}(h:xs[i]? = ys[j]?):kk key xs i=kk key ys j:=by unfold kk;rw[h]
theorem mY {xs:Array Bp}{i j:Nat}(hj:j<=xs.size)(k:Nat):kk key (mirror xs i j ((j-i)/2)) k=if i<=k/\k<j then kk key xs (i+j-1-k) else kk key xs k:=by
 have e:=Hj (i:=i) hj k
 by_cases h:i<=k/\k<j
 ·rw[if_pos h] at e ⊢;exact iL e
 ·rw[if_neg h] at e ⊢;exact iL e
theorem ff {xs:Array Bp}{i j:Nat}(hj:j<=xs.size)(he:∀k,i<=k->k<j->kk key xs k=kk key xs (j-1))(k:Nat):kk key (mirror xs i j ((j-i)/2)) k=kk key xs k:=by
 rw[mY hj]
 split
 ·rw[he _ (by omega) (by omega),he k (by omega) (by omega)]
 ·rfl
end
structure SA (lo:Nat)(st st':BO):Prop where
 perm:(Bx st').Perm (Bx st)
 pre:∀k,k<lo->(Bx st')[k]? = (Bx st)[k]?
 k:kindOf st'=kindOf st
 p:BI st'=BI st
 f:failedOf st'=failedOf st
theorem SA.refl (lo:Nat)(st:BO):SA lo st st:=⟨Array.Perm.refl _,λ_ _=>rfl,rfl,rfl,rfl⟩
theorem SA.size {lo:Nat}{st st':BO}(h:SA lo st st'):(Bx st').size=(Bx st).size:=h.perm.size_eq
theorem SA.mirror {lo:Nat}{st st':BO}(h:SA lo st st'){i j:Nat}(hi:lo<=i)(hj:j<=(Bx st').size):SA lo st (setArr st' (mirror (Bx st') i j ((j-i)/2))) :=
 ⟨(mirror_perm _ _ _ _).trans h.perm,λk hk=>by
  show (PyProof.Rows.mirror (Bx st') i j ((j-i)/2))[k]? = _
  rw[Hj hj,if_neg (by lia)]
  exact h.pre k hk,h.k,h.p,h.f⟩
theorem SA.mem {lo:Nat}{st st':BO}(h:SA lo st st'){p:Bp}(hp:p∈(Bx st').toList):p∈(Bx st).toList:=(FJ.mp h.perm).mem_iff.mp hp
section
variable  {prog:Bi}{w:BQ}{A:Cc}{E:AS->A1->Prop}{s:A1}{O:Fw}{key:Bp->O.α}{U:Bp->Prop}{κ:SortKind}
theorem gG (C:Cmp prog w A s O key U κ){st:BO}{i j:Nat}{Q:Option Bool->BO->Prop}(hκ:kindOf st=κ)(hu:∀p∈(Bx st).toList,U p)(hi:i<(Bx st).size)(hj:j<(Bx st).size)
  (h:Q (some (O.blt (kk key (Bx st) i) (kk key (Bx st) j))) st):wpS (BJ prog w) A E s (ltAt' i j) Q st:=by
 rw[ltAt'_eq]
 refine Bg (F1 ?_)
 obtain ⟨x,ex⟩:=aV hi
 obtain ⟨y,ey⟩:=aV hj
 dsimp only
 refine Bg (aU ex (Bg (aU ey (C.lt _ st x y _ hκ (hu _ (bI ex)) (hu _ (bI ey)) ?_))))
 unfold kk at h
 rw[ex,ey] at h
 exact h
theorem xM (C:Cmp prog w A s O key U κ){st:BO}{lo m:Nat}{Q:Option Nat->BO->Prop}(hκ:kindOf st=κ)(hu:∀p∈(Bx st).toList,U p)(hm:1<=m)(hz:lo+m=(Bx st).size)
  (h:∀n st',1<=n->n<=m->SA lo st st'->Up key (Bx st') lo n->Q (some n) st'):wpS (BJ prog w) A E s (zz lo m) Q st:=by
 rw[xK]
 dsimp only
 refine Bg (Dn (CC (I:=λx c st'=>st=st'/\c=(none,x)/\Up key (Bx st) lo x)
  (Q:=λc st'=>st=st'/\∃n,c=(none,n)/\1<=n/\n<=m/\Up key (Bx st) lo n/\(n<m->O.klt (kk key (Bx st) (lo+n)) (kk key (Bx st) (lo+n-1)))) ?step ?fin ⟨rfl,rfl,λi j h1 h2 h3=>by rw[show i=j by lia];exact C9 _⟩) ?post)
 case fin =>
  rintro c st' ⟨rfl,rfl,up⟩
  exact ⟨rfl,_,rfl,by lia,by lia,by rw[show max 1 m=m by lia] at up ⊢;exact up,by lia⟩
 case step =>
  rintro x c st' h1 h2 ⟨rfl,rfl,up⟩
  dsimp only
  refine Bg (gG C hκ hu (by lia) (by lia) ?_)
  dsimp only
  cases hb:O.blt (kk key (Bx st) (lo+x)) (kk key (Bx st) (lo+x-1)) with
  | true =>
   rw[if_pos rfl]
   exact Bq ⟨rfl,x,rfl,h1,by lia,up,λ_=>hb⟩
  | false =>
   rw[if_neg (by simp)]
   refine Bq ⟨rfl,rfl,λi j k1 k2 k3 =>?_⟩
   by_cases hj:j=lo+x
   ·by_cases hi:i=j
    ·rw[hi];exact C9 _
    ·rw[hj]
     exact B0 (up i (lo+x-1) k1 (by lia) (by lia)) hb
   ·exact up i j k1 k2 (by lia)
 case post =>
  rintro c st' ⟨rfl,n,rfl,n1,n2,up,br⟩
  dsimp only
  by_cases c1:(n == m)=true
  ·rw[if_pos c1]
   exact Bq (h n st n1 n2 (SA.refl _ _) up)
  rw[if_neg c1]
  have nm:n<m:=by have:n≠m:=λz=>c1 (beq_iff_eq.mpr z);lia
  have br:=br nm
  by_cases c2:n>1
  case' pos =>
   rw[if_pos c2]
   refine Bg (gG C hκ hu (by lia) (by lia) ?_)
   dsimp only
   cases hro:O.blt (kk key (Bx st) lo) (kk key (Bx st) (lo+n-1))
   case' true =>
    rw[if_pos rfl]
    exact Bq (h n st n1 n2 (SA.refl _ _) up)
   rw[if_neg (by simp)]
   have eqs:∀k,lo<=k->k<lo+n->kk key (Bx st) k=kk key (Bx st) (lo+n-1):=λk k1 k2 =>
    Hg (up k (lo+n-1) k1 (by lia) (by lia)) (B0 (show O.kle (kk key (Bx st) (lo+n-1)) (kk key (Bx st) lo) from hro) (up lo k (AY _) k1 k2))
   rw[Fq]
   refine Bg (DG ?_)
   have sa:=(SA.refl lo st).mirror (i:=lo) (j:=lo+n) (AY _) (by lia)
   have ke:=ff (key:=key) (xs:=Bx st) (i:=lo) (j:=lo+n) (by lia) eqs
   have ka:∀k,kk key (Bx (setArr st (mirror (Bx st) lo (lo+n) ((lo+n-lo)/2)))) k=kk key (Bx st) k:=ke
   generalize setArr st (mirror (Bx st) lo (lo+n) ((lo+n-lo)/2))=st1 at sa ka ⊢
   clear ke
  case' neg =>
   rw[if_neg c2]
   have eqs:∀k,lo<=k->k<lo+n->kk key (Bx st) k=kk key (Bx st) (lo+n-1):=λk k1 k2=>by rw[show k=lo+n-1 by lia]
   obtain ⟨st1,e1⟩:∃st1,st1=st:=⟨_,rfl⟩
   have sa:SA lo st st1:=by rw[e1];exact SA.refl _ _
   have ka:∀k,kk key (Bx st1) k=kk key (Bx st) k:=λk=>by rw[e1]
   rw[<- e1]
   clear e1
  all_goals
   refine Bg (Gm (D3 ⟨rfl,?_⟩))
   have dn:Down key (Bx st1) lo (n+1):=λi j k1 k2 k3=>by
    rw[ka,ka]
    by_cases hj:j=lo+n
    ·by_cases hi:i=j
     ·rw[hi];exact C9 _
     ·rw[hj,eqs i k1 (by lia)]
      exact CJ br
    ·rw[eqs i k1 (by lia),eqs j (by lia) (by lia)]
     exact C9 _
   clear eqs up br ka
   refine Bg (Dn (CC (I:=λx c st'=>∃q,c=(none,x,q)/\x<=m/\SA lo st st'/\Down key (Bx st') lo x/\q+1<=x/\∀k,lo+x-(q+1)<=k->k<lo+x->kk key (Bx st') k=kk key (Bx st') (lo+x-1))
    (Q:=λc st'=>∃x q,c=(none,x,q)/\1<=x/\x<=m/\SA lo st st'/\Down key (Bx st') lo x/\q+1<=x/\∀k,lo+x-(q+1)<=k->k<lo+x->kk key (Bx st') k=kk key (Bx st') (lo+x-1)) ?step ?fin
    ⟨0,rfl,by lia,sa,dn,by lia,λk k1 k2=>by rw[show k=lo+(n+1)-1 by lia]⟩) ?post)
   case fin =>
    rintro c st' ⟨q,rfl,xm,sa,dn,hq,he⟩
    exact ⟨_,q,rfl,by lia,xm,sa,dn,hq,he⟩
   case step =>
    rintro x c st2 h1 h2 ⟨q,rfl,xm,sa2,dn2,hq,he⟩
    dsimp only
    have sz:=sa2.size
    have u2:∀p∈(Bx st2).toList,U p:=λp hp=>hu p (sa2.mem hp)
    refine Bg (gG C (sa2.k.trans hκ) u2 (by lia) (by lia) ?_)
    dsimp only
    cases hb:O.blt (kk key (Bx st2) (lo+x)) (kk key (Bx st2) (lo+x-1)) with
    | true =>
     rw[if_pos rfl]
     have dn3:Down key (Bx st2) lo (x+1):=λi j k1 k2 k3=>by
      by_cases hj:j=lo+x
      ·by_cases hi:i=j
       ·rw[hi];exact C9 _
       ·rw[hj];exact B0 (CJ hb) (dn2 i (lo+x-1) k1 (by lia) (by lia))
      ·exact dn2 i j k1 k2 (by lia)
     by_cases q0:q>0
     ·rw[if_pos q0,Fq]
      refine Bg (DG (Bq ?_))
      have ke:=ff (key:=key) (xs:=Bx st2) (i:=lo+x-(q+1)) (j:=lo+x) (by lia) he
      refine ⟨0,rfl,by lia,sa2.mirror (by lia) (by lia),λi j k1 k2 k3 =>?_,by lia,λk k1 k2=>by rw[show k=lo+(x+1)-1 by lia]⟩
      show O.kle (kk key (mirror (Bx st2) (lo+x-(q+1)) (lo+x) ((lo+x-(lo+x-(q+1)))/2)) j) (kk key (mirror (Bx st2) (lo+x-(q+1)) (lo+x) ((lo+x-(lo+x-(q+1)))/2)) i)
      rw[ke,ke]
      exact dn3 i j k1 k2 k3
     ·rw[if_neg q0]
      exact Bq ⟨0,rfl,by lia,sa2,dn3,by lia,λk k1 k2=>by rw[show k=lo+(x+1)-1 by lia]⟩
    | false =>
     rw[if_neg (by simp)]
     refine Bg (gG C (sa2.k.trans hκ) u2 (by lia) (by lia) ?_)
     dsimp only
     cases hb2:O.blt (kk key (Bx st2) (lo+x-1)) (kk key (Bx st2) (lo+x)) with
     | true =>
      rw[if_pos rfl]
      exact Bq ⟨x,q,rfl,by lia,xm,sa2,dn2,hq,he⟩
     | false =>
      rw[if_neg (by simp)]
      have eq:=Hg (show O.kle (kk key (Bx st2) (lo+x)) (kk key (Bx st2) (lo+x-1)) from hb2) hb
      refine Bq ⟨q+1,rfl,by lia,sa2,λi j k1 k2 k3 =>?_,by lia,λk k1 k2 =>?_⟩
      ·by_cases hj:j=lo+x
       ·by_cases hi:i=j
        ·rw[hi];exact C9 _
        ·rw[hj,eq];exact dn2 i (lo+x-1) k1 (by lia) (by lia)
       ·exact dn2 i j k1 k2 (by lia)
      ·rw[show lo+(x+1)-1=lo+x by lia,eq]
       by_cases hk:k=lo+x
       ·rw[hk,eq]
       ·exact he k (by lia) (by lia)
   case post =>
    rintro c st2 ⟨x,q,rfl,x1,xm,sa2,dn2,hq,he⟩
    dsimp only
    have sz:=sa2.size
    by_cases q0:q>0
    case' pos =>
     rw[if_pos q0,Fq]
     refine Bg (DG ?_)
     have ke:=ff (key:=key) (xs:=Bx st2) (i:=lo+x-(q+1)) (j:=lo+x) (by lia) he
     have sa3:=sa2.mirror (i:=lo+x-(q+1)) (j:=lo+x) (by lia) (by lia)
     have dn3:Down key (Bx (setArr st2 (mirror (Bx st2) (lo+x-(q+1)) (lo+x) ((lo+x-(lo+x-(q+1)))/2)))) lo x:=λi j k1 k2 k3=>by
      show O.kle (kk key (mirror (Bx st2) (lo+x-(q+1)) (lo+x) ((lo+x-(lo+x-(q+1)))/2)) j) (kk key (mirror (Bx st2) (lo+x-(q+1)) (lo+x) ((lo+x-(lo+x-(q+1)))/2)) i)
      rw[ke,ke]
      exact dn2 i j k1 k2 k3
     generalize setArr st2 (mirror (Bx st2) (lo+x-(q+1)) (lo+x) ((lo+x-(lo+x-(q+1)))/2))=st3 at sa3 dn3 ⊢
     clear ke
    case' neg =>
     rw[if_neg q0]
     obtain ⟨st3,e3⟩:∃st3,st3=st2:=⟨_,rfl⟩
     have sa3:SA lo st st3:=by rw[e3];exact sa2
     have dn3:Down key (Bx st3) lo x:=by rw[e3];exact dn2
     rw[<- e3]
     clear e3
    all_goals
     rw[Fq]
     refine Bg (DG ?_)
     have sz3:=sa3.size
     have sa4:=sa3.mirror (i:=lo) (j:=lo+x) (AY _) (by lia)
     have km:=mY (key:=key) (xs:=Bx st3) (i:=lo) (j:=lo+x) (by lia)
     have up4:Up key (Bx (setArr st3 (mirror (Bx st3) lo (lo+x) ((lo+x-lo)/2)))) lo x:=λi j k1 k2 k3=>by
      show O.kle (kk key (mirror (Bx st3) lo (lo+x) ((lo+x-lo)/2)) i) (kk key (mirror (Bx st3) lo (lo+x) ((lo+x-lo)/2)) j)
      rw[km,km,if_pos ⟨by lia,by lia⟩,if_pos ⟨by lia,by lia⟩]
      exact dn3 _ _ (by lia) (by lia) (by lia)
     generalize setArr st3 (mirror (Bx st3) lo (lo+x) ((lo+x-lo)/2))=st4 at sa4 up4 ⊢
     clear km
     have u4:∀p∈(Bx st4).toList,U p:=λp hp=>hu p (sa4.mem hp)
     have sz4:=sa4.size
     refine Bg (Dn (CC (I:=λz c st'=>st4=st'/\c=(none,z)/\z<=m/\Up key (Bx st4) lo z)
      (Q:=λc st'=>st4=st'/\∃z,c=(none,z)/\1<=z/\z<=m/\Up key (Bx st4) lo z) ?step ?fin ⟨rfl,rfl,xm,up4⟩) ?post)
     case fin =>
      rintro c st' ⟨rfl,rfl,zm,up⟩
      exact ⟨rfl,_,rfl,by lia,zm,up⟩
     case post =>
      rintro c st' ⟨rfl,z,rfl,z1,zm,up⟩
      exact Bq (h z st4 z1 zm sa4 up)
     case step =>
      rintro z c st' h1 h2 ⟨rfl,rfl,zm,up⟩
      dsimp only
      refine Bg (gG C (sa4.k.trans hκ) u4 (by lia) (by lia) ?_)
      dsimp only
      cases hb:O.blt (kk key (Bx st4) (lo+z)) (kk key (Bx st4) (lo+z-1)) with
      | true =>
       rw[if_pos rfl]
       exact Bq ⟨rfl,z,rfl,by lia,zm,up⟩
      | false =>
       rw[if_neg (by simp)]
       refine Bq ⟨rfl,rfl,by lia,λi j k1 k2 k3 =>?_⟩
       by_cases hj:j=lo+z
       ·by_cases hi:i=j
        ·rw[hi];exact C9 _
        ·rw[hj];exact B0 (up i (lo+z-1) k1 (by lia) (by lia)) hb
       ·exact up i j k1 k2 (by lia)
theorem mZ {xs:Array Bp}{src d:Nat}(hs:src<xs.size)(hd:d<=src)(k:Nat) :
  kk key (bubble xs src d) k=if k=src-d then kk key xs src else if src-d<k/\k<=src then kk key xs (k-1) else kk key xs k:=by
 have e:=getElem?_bubble hs d hd k
 by_cases h1:k=src-d
 ·rw[if_pos h1] at e ⊢;exact iL e
 ·rw[if_neg h1] at e ⊢
  by_cases h2:src-d<k/\k<=src
  ·rw[if_pos h2] at e ⊢;exact iL e
  ·rw[if_neg h2] at e ⊢;exact iL e
theorem SA.bubble {lo:Nat}{st st':BO}(h:SA lo st st'){src d:Nat}(hs:src<(Bx st').size)(hd:lo+d<=src):SA lo st (setArr st' (bubble (Bx st') src d)) :=
 ⟨(bubble_perm _ _ _).trans h.perm,λk hk=>by
  show (PyProof.Rows.bubble (Bx st') src d)[k]? = _
  rw[getElem?_bubble hs d (by lia),if_neg (by lia),if_neg (by lia)]
  exact h.pre k hk,h.k,h.p,h.f⟩
theorem vT (C:Cmp prog w A s O key U κ){st:BO}{lo n ok:Nat}{Q:Bool->BO->Prop}(hκ:kindOf st=κ)(hu:∀p∈(Bx st).toList,U p)(hn:lo+n<=(Bx st).size)(hok:ok<=n)(up:Up key (Bx st) lo ok)
  (h:∀st',SA lo st st'->Up key (Bx st') lo n->Q true st'):wpS (BJ prog w) A E s (vJ lo n ok) Q st:=by
 rw[vS]
 dsimp only
 refine Bg (Dn (CC (I:=λx c st'=>c=(none,())/\SA lo st st'/\Up key (Bx st') lo (min x n)) (Q:=λc st'=>c=(none,())/\SA lo st st'/\Up key (Bx st') lo n) ?step ?fin ⟨rfl,SA.refl _ _,λi j k1 k2 k3 =>?_⟩) ?post)
 case post =>
  rintro c st' ⟨rfl,sa,up⟩
  exact Bq (h st' sa up)
 case fin =>
  rintro c st' ⟨rfl,sa,up⟩
  refine ⟨rfl,sa,?_⟩
  rw[show min (max (max ok 1) n) n=n by lia] at up
  exact up
 case step =>
  rintro k c st1 h1 h2 ⟨rfl,sa1,up1⟩
  rw[show min k n=k by lia] at up1
  have sz:=sa1.size
  have u1:∀p∈(Bx st1).toList,U p:=λp hp=>hu p (sa1.mem hp)
  refine Bg (Dn (CC (I:=λx c st'=>st1=st'/\∃l r,c=(none,l,r)/\l<=r/\r<=k/\r-l<=k-x/\(∀i,i<l->O.kle (kk key (Bx st1) (lo+i)) (kk key (Bx st1) (lo+k)))/\(∀i,r<=i->i<k->O.klt (kk key (Bx st1) (lo+k)) (kk key (Bx st1) (lo+i))))
   (Q:=λc st'=>st1=st'/\∃l r,c=(none,l,r)/\l<=k/\(∀i,i<l->O.kle (kk key (Bx st1) (lo+i)) (kk key (Bx st1) (lo+k)))/\(∀i,l<=i->i<k->O.klt (kk key (Bx st1) (lo+k)) (kk key (Bx st1) (lo+i)))) ?istep ?ifin ⟨rfl,0,k,rfl,by lia,by lia,by lia,λi hi=>by lia,λi a1 a2=>by lia⟩) ?ipost)
  case ifin =>
   rintro c st' ⟨rfl,l,r,rfl,b1,b2,b3,b4,b5⟩
   have e:l=r:=by lia
   subst e
   exact ⟨rfl,l,l,rfl,b2,b4,b5⟩
  case istep =>
   rintro x c st' _ hx ⟨rfl,l,r,rfl,b1,b2,b3,b4,b5⟩
   dsimp only
   by_cases hge:l≥r
   ·rw[if_pos hge]
    have e:l=r:=by lia
    subst e
    exact Bq ⟨rfl,l,l,rfl,b2,b4,b5⟩
   ·rw[if_neg hge]
    refine Bg (gG C (sa1.k.trans hκ) u1 (by lia) (by lia) ?_)
    dsimp only
    cases hb:O.blt (kk key (Bx st1) (lo+k)) (kk key (Bx st1) (lo+(l+r)/2)) with
    | true =>
     rw[if_pos rfl]
     exact Bq ⟨rfl,l,(l+r)/2,rfl,by lia,by lia,by lia,b4,λi a1 a2=>KeyOrd.klt_of_klt_of_kle hb (up1 _ _ (by lia) (by lia) (by lia))⟩
    | false =>
     rw[if_neg (by simp)]
     exact Bq ⟨rfl,(l+r)/2+1,r,rfl,by lia,by lia,by lia,λi a1=>B0 (up1 (lo+i) (lo+(l+r)/2) (by lia) (by lia) (by lia)) hb,b5⟩
  case ipost =>
   rintro c st' ⟨rfl,l,r,rfl,b2,b4,b5⟩
   dsimp only
   rw[moveDown'_eq]
   have e:lo+k-(lo+l)=k-l:=by lia
   refine Bg (DG (Bq ⟨rfl,?_,?_⟩))
   ·rw[e]
    exact sa1.bubble (by lia) (by lia)
   ·rw[show min (k+1) n=k+1 by lia]
    intro i j k1 k2 k3
    show O.kle (kk key (bubble (Bx st1) (lo+k) (lo+k-(lo+l))) i) (kk key (bubble (Bx st1) (lo+k) (lo+k-(lo+l))) j)
    have lt:lo+k<(Bx st1).size:=by lia
    rw[e,mZ lt (by lia),mZ lt (by lia),show lo+k-(k-l)=lo+l by lia]
    have b4':∀z,lo<=z->z<lo+l->O.kle (kk key (Bx st1) z) (kk key (Bx st1) (lo+k)):=λz z1 z2=>by
     have:=b4 (z-lo) (by lia)
     rw[show lo+(z-lo)=z by lia] at this
     exact this
    have b5':∀z,lo+l<=z->z<lo+k->O.kle (kk key (Bx st1) (lo+k)) (kk key (Bx st1) z):=λz z1 z2=>by
     have:=b5 (z-lo) (by lia) (by lia)
     rw[show lo+(z-lo)=z by lia] at this
     exact CJ this
    repeat' split
    all_goals first
     | (exfalso;lia)
     | exact C9 _
     | exact b4' _ (by lia) (by lia)
     | exact b5' _ (by lia) (by lia)
     | exact up1 _ _ (by lia) (by lia) (by lia)
 ·by_cases h1:ok=0
  ·rw[show i=j by lia];exact C9 _
  ·exact up i j k1 k2 (by lia)
end
open PySem PyProof.Rows
def pwr:Nat->Nat->Nat->Nat->Nat:=sortPriv% PySem.Builtin.power
def mrn:Nat->Nat->Nat->Nat:=sortPriv% PySem.Builtin.minRun
theorem vU:yC=(do
    let sz:=(Bx (← get)).size
    let mr:=mrn sz sz 0
    let mut lo:=0
    for _ in [0:sz] do
      if lo≥sz then break
      let some fd ← zz lo (sz-lo)
        | return
      let mut n:=fd
      if n<mr then
        rule "list.sort.binary-insertion"
        let fo:=min (sz-lo) mr
        if !(← vJ lo fo n) then return
        n:=fo
      if let some (s1,n1,_):=(BI (← get)).back? then
        let pw:=pwr sz (2*s1+n1) (2*s1+n1+n1+n) sz
        for _ in [0:sz] do
          let p:=BI (← get)
          let some (_,_,old):=(if p.size>1 then p[p.size-2]? else none)
            | break
          if old<=pw then break
          if !(← mAt (p.size-2)) then return
        modify λs=>SortSt.mk' (kindOf s) (Bx s) ((BI s).modify ((BI s).size-1) λ(st,len,_)=>(st,len,pw)) (gallopOf s) (failedOf s)
      modify λs=>SortSt.mk' (kindOf s) (Bx s) ((BI s).push (lo,n,0)) (gallopOf s) (failedOf s)
      lo:=lo+n
    for _ in [0:sz] do
      let p:=BI (← get)
      if p.size<=1 then break
      let i:=p.size-2
      let bf:=if i>0 then p[i-1]?.map (·.2.1) else none
      let i:=if bf.any (· < (p[i+1]?.elim 0 (·.2.1))) then i-1 else i
      if !(← mAt i) then return):=rfl
def Mt:Nat->List (List Bp)->List (Nat×Nat×Nat)->Prop
 | _,[],[]=>True
 | off,r :: rs,p :: ps=>p.1=off/\p.2.1=r.length/\Mt (off+r.length) rs ps
 | _,_,_=>False
theorem Mt.length:∀{off:Nat} {rs:List (List Bp)} {ps:List (Nat×Nat×Nat)},Mt off rs ps->ps.length=rs.length
 | _,[],[],_=>rfl
 | _,_ :: _,_ :: _,h=>by rw[BP,BP,Mt.length h.2.2]
theorem Mt.append:∀{off:Nat} {rs ts:List (List Bp)} {ps us:List (Nat×Nat×Nat)},Mt off rs ps->Mt (off+rs.flatten.length) ts us->Mt off (rs++ts) (ps++us)
 | _,[],_,[],_,_,h=>by simpa using h
 | off,r :: rs,ts,p :: ps,us,h,h'=>by
  refine ⟨h.1,h.2.1,Mt.append h.2.2 ?_⟩
  rw[F7,AR, <- Je] at h'
  exact h'
theorem Mt.split:∀{off:Nat} {rs:List (List Bp)} {ps:List (Nat×Nat×Nat)} (i:Nat),Mt off rs ps->i+1<ps.length →
  ∃R1 X Y R2 L1 w1 w2 L2,rs=R1++X :: Y :: R2/\ps=L1++(off+R1.flatten.length,X.length,w1) :: (off+R1.flatten.length+X.length,Y.length,w2) :: L2/\L1.length=i/\Mt off R1 L1/\Mt (off+R1.flatten.length+X.length+Y.length) R2 L2
 | off,r :: r2 :: rs,p :: p2 :: ps,0,h,_=>by
  obtain ⟨a,b,w1⟩:=p
  obtain ⟨c,d,w2⟩:=p2
  obtain ⟨h1,h2,h3,h4,h5⟩:=h
  dsimp only at h1 h2 h3 h4
  subst h1 h2 h3 h4
  exact ⟨[],r,r2,rs,[],w1,w2,ps,rfl,rfl,rfl,trivial,h5⟩
 | off,r :: rs,p :: ps,i+1,h,hl=>by
  rw[BP] at hl
  obtain ⟨R1,X,Y,R2,L1,w1,w2,L2,e1,e2,e3,m1,m2⟩:=Mt.split i h.2.2 (by lia)
  have ea:off+(r :: R1).flatten.length=off+r.length+R1.flatten.length:=by rw[F7,AR];lia
  refine ⟨r :: R1,X,Y,R2,p :: L1,w1,w2,L2,by rw[e1];rfl,?_,by rw[BP,e3],⟨h.1,h.2.1,m1⟩,?_⟩
  ·rw[ea,e2];rfl
  ·rw[ea];exact m2
 | off,[],[],i,_,hl=>by simp at hl
 | off,[_],[_],0,_,hl=>by simp at hl
theorem Mt.modify (f:Nat×Nat×Nat->Nat×Nat×Nat)(hf:∀p,(f p).1=p.1/\(f p).2.1=p.2.1):∀{off:Nat} {rs:List (List Bp)} {ps:List (Nat×Nat×Nat)} (i:Nat),Mt off rs ps->Mt off rs (ps.modify i f)
 | _,[],[],i,_=>by cases i <;> exact trivial
 | off,r :: rs,p :: ps,0,h=>⟨(hf p).1.trans h.1,(hf p).2.trans h.2.1,h.2.2⟩
 | off,r :: rs,p :: ps,i+1,h=>⟨h.1,h.2.1,Mt.modify f hf i h.2.2⟩
theorem ux {α:Type}(l:List α)(a b c:α)(r:List α):((l++a :: b :: r).set l.length c).eraseIdx (l.length+1)=l++c :: r:=by
 induction l with
 | nil=>rfl
 | cons x l ih=>simp only[List.cons_append,BP,List.set_cons_succ,EN,ih]
section
variable  {O:Fw}(key:Bp->O.α)(U:Bp->Prop)(κ:SortKind)
structure Rn (a0:List Bp)(lo:Nat)(st:BO):Prop where
 ex:∃runs rest,(Bx st).toList=runs.flatten++rest/\runs.flatten.length=lo/\(∀r∈runs,r.Pairwise (Le key)/\0<r.length)/\Mt 0 runs (BI st).toList
 perm:(Bx st).toList.Perm a0
 k:kindOf st=κ
 f:failedOf st=none
end
section
variable  {prog:Bi}{w:BQ}{A:Cc}{E:AS->A1->Prop}{s:A1}{O:Fw}{key:Bp->O.α}{U:Bp->Prop}{κ:SortKind}
theorem o9 (C:Cmp prog w A s O key U κ){a0:List Bp}{lo i:Nat}{st:BO}{Q:Bool->BO->Prop}(hu:∀p∈a0,U p)(R:Rn key κ a0 lo st)(hi:i+1<(BI st).size)
  (h:∀st',Rn key κ a0 lo st'->(BI st').size+1=(BI st).size->(Bx st').toList.drop lo=(Bx st).toList.drop lo->Q true st'):wpS (BJ prog w) A E s (mAt i) Q st:=by
 obtain ⟨runs,rest,ea,el,er,em⟩:=R.ex
 obtain ⟨R1,X,Y,R2,L1,w1,w2,L2,e1,e2,e3,m1,m2⟩:=Mt.split i em (by rw[A5];exact hi)
 subst e1
 rw[DN] at e2 m2
 have hx:=er X (by simp)
 have hy:=er Y (by simp)
 have ga:(BI st)[i]? = some (R1.flatten.length,X.length,w1):=by
  rw[<- A9,e2, <- e3,show L1.length=L1.length+0 by lia,qD];rfl
 have gb:(BI st)[i+1]? = some (R1.flatten.length+X.length,Y.length,w2):=by
  rw[<- A9,e2, <- e3,qD];rfl
 refine zJ C (P:=R1.flatten) (X:=X) (Y:=Y) (S:=R2.flatten++rest) R.k R.f (by rw[ea];simp) (λp hp=>hu p (R.perm.mem_iff.mp hp)) ga gb hx.2 hy.2 hx.1 hy.1 λst' M pm sm ar pd kd fl =>?_
 have lm:M.length=X.length+Y.length:=by rw[pm.length_eq,AR]
 have ep:(BI st').toList=L1++(R1.flatten.length,X.length+Y.length,w1) :: L2:=by
  rw[pd,Array.toList_eraseIdxIfInBounds,FI,e2, <- e3]
  exact ux _ _ _ _ _
 refine h st' ⟨⟨R1++M :: R2,rest,?_,?_,λr hr =>?_,?_⟩,?_,kd,fl⟩ ?_ ?_
 ·rw[ar];simp
 ·rw[<- el];simp[lm];lia
 ·rcases A7.mp hr with q | q
  ·exact er r (by simp[q])
  ·rcases Bs.mp q with q | q
   ·rw[q];exact ⟨sm,by have:=hx.2;lia⟩
   ·exact er r (by simp[q])
 ·rw[ep]
  refine Mt.append m1 ⟨by rw[DN],lm.symm,?_⟩
  rw[DN,lm, <- Je]
  exact m2
 ·rw[ar]
  refine List.Perm.trans ?_ R.perm
  rw[ea,show (R1++X :: Y :: R2).flatten++rest=R1.flatten++((X++Y)++(R2.flatten++rest)) by simp]
  exact C0 _ (DK _ pm)
 ·rw[<- A5, <- A5,ep,e2]
  simp only[AR,BP]
  lia
 ·have l1:(R1++M :: R2).flatten.length=lo:=by rw[<- el];simp[lm];lia
  have q1:(Bx st').toList=(R1++M :: R2).flatten++rest:=by rw[ar];simp
  rw[q1,ea, <- l1,FY,l1, <- el,FY]
theorem Rn.sa {a0:List Bp}{lo:Nat}{st st':BO}(R:Rn key κ a0 lo st)(sa:SA lo st st'):Rn key κ a0 lo st':=by
 obtain ⟨runs,rest,ea,el,er,em⟩:=R.ex
 have et:(Bx st').toList.take lo=runs.flatten:=by
  have e1:(Bx st').toList.take lo=(Bx st).toList.take lo:=by
   refine E7 λi =>?_
   rw[Dd,Dd]
   split
   ·rw[A9,A9];exact sa.pre i (by assumption)
   ·rfl
  rw[e1,ea, <- el,List.take_left]
 refine ⟨⟨runs,(Bx st').toList.drop lo,by rw[<- et,C1],el,er,by rw[sa.p];exact em⟩,(FJ.mp sa.perm).trans R.perm,sa.k.trans R.k,sa.f.trans R.f⟩
theorem uy {xs:Array Bp}{lo n:Nat}(h:Up key xs lo n):((xs.toList.drop lo).take n).Pairwise (Le key):=by
 refine DQ.mpr λi j hi hj hij =>?_
 have get:∀k (hk:k<((xs.toList.drop lo).take n).length),key ((xs.toList.drop lo).take n)[k]=kk key xs (lo+k)/\k<n:=λk hk=>by
  have hk':=hk
  rw[B4] at hk'
  refine ⟨?_,by lia⟩
  have e:((xs.toList.drop lo).take n)[k]? = xs[lo+k]? := by
   rw[Dd,if_pos (by lia),Dc,A9]
  rw[AQ hk] at e
  unfold kk
  rw[<- e];rfl
 obtain ⟨e1,l1⟩:=get i hi
 obtain ⟨e2,l2⟩:=get j hj
 show O.kle (key _) (key _)
 rw[e1,e2]
 exact h _ _ (by lia) (by lia) (by lia)
theorem Rn.push {a0:List Bp}{lo n:Nat}{st:BO}(R:Rn key κ a0 lo st)(hn:0<n)(hz:lo+n<=(Bx st).size)(hs:(((Bx st).toList.drop lo).take n).Pairwise (Le key)) :
  Rn key κ a0 (lo+n) (SortSt.mk' (kindOf st) (Bx st) ((BI st).push (lo,n,0)) (gallopOf st) (failedOf st)):=by
 obtain ⟨runs,rest,ea,el,er,em⟩:=R.ex
 have ed:(Bx st).toList.drop lo=rest:=by rw[ea, <- el,FY]
 rw[ed] at hs
 have lr:n<=rest.length:=by
  have:=congrArg List.length ea
  rw[A5,AR,el] at this
  lia
 have lt:(rest.take n).length=n:=by rw[B4];lia
 refine ⟨⟨runs++[rest.take n],rest.drop n,?_,?_,λr hr =>?_,?_⟩,R.perm,R.k,R.f⟩
 ·show (Bx st).toList=_
  rw[ea];simp
 ·simp[lt,el]
 ·rcases A7.mp hr with q | q
  ·exact er r q
  ·have e:r=rest.take n:=by simpa using q
   rw[e];exact ⟨hs,by lia⟩
 ·show Mt 0 _ ((BI st).push (lo,n,0)).toList
  rw[Dl]
  exact Mt.append em ⟨by show lo=_;lia,lt.symm,trivial⟩
theorem Rn.mod {a0:List Bp}{lo:Nat}{st:BO}(R:Rn key κ a0 lo st)(i:Nat)(f:Nat×Nat×Nat->Nat×Nat×Nat)(hf:∀p,(f p).1=p.1/\(f p).2.1=p.2.1):Rn key κ a0 lo (SortSt.mk' (kindOf st) (Bx st) ((BI st).modify i f) (gallopOf st) (failedOf st)):=by
 obtain ⟨runs,rest,ea,el,er,em⟩:=R.ex
 refine ⟨⟨runs,rest,ea,el,er,?_⟩,R.perm,R.k,R.f⟩
 show Mt 0 runs ((BI st).modify i f).toList
 rw[Array.toList_modify]
 exact Mt.modify f hf i em
theorem zK {c:Prop}[Decidable c]{n:Nat}(h:1<n):(if c then n-2-1 else n-2)+1<n:=by split <;> omega
theorem m5:∀{runs:List (List Bp)},(∀r∈runs,0<r.length)->runs.length<=runs.flatten.length
 | [],_=>AY _
 | r :: rs,h=>by
  have h1:=h r Be
  have h2:=m5 λq hq=>h q (Br _ hq)
  rw[F7,AR,BP]
  lia
theorem vV (C:Cmp prog w A s O key U κ){a0:List Bp}{st:BO}{Q:Unit->BO->Prop}(hu:∀p∈a0,U p)(ha:(Bx st).toList=a0)(hp:BI st = #[])(hk:kindOf st=κ)(hf:failedOf st=none)(h1:1<=a0.length)
  (h:∀st',(Bx st').toList.Perm a0->(Bx st').toList.Pairwise (Le key)->failedOf st'=none->Q () st'):wpS (BJ prog w) A E s yC Q st:=by
 rw[vU]
 refine Bg (F1 ?_)
 dsimp only
 have sz0:(Bx st).size=a0.length:=by rw[<- A5,ha]
 have szR:∀{lo:Nat} {st':BO},Rn key κ a0 lo st'->(Bx st').size=(Bx st).size:=λR=>by rw[<- A5,R.perm.length_eq,sz0]
 have uR:∀{lo:Nat} {st':BO},Rn key κ a0 lo st'->∀p∈(Bx st').toList,U p:=λR p hp=>hu p (R.perm.mem_iff.mp hp)
 have R0:Rn key κ a0 0 st:=⟨⟨[],a0,by rw[ha];rfl,rfl,λr hr=>(by cases hr),by rw[hp];exact trivial⟩,by rw[ha],hk,hf⟩
 refine Bg (Dn (CC (I:=λx c st'=>∃lo,c=(none,lo)/\x<=lo/\lo<=(Bx st).size/\Rn key κ a0 lo st') (Q:=λc st'=>c=(none,(Bx st).size)/\Rn key κ a0 (Bx st).size st') ?step ?fin ⟨0,rfl,AY _,BX _,R0⟩) ?post)
 case fin =>
  rintro c st' ⟨lo,rfl,l1,l2,R⟩
  obtain rfl:lo=(Bx st).size:=by lia
  exact ⟨rfl,R⟩
 case post =>
  rintro c st1 ⟨rfl,R⟩
  dsimp only
  have p0:(BI st1).size<=(Bx st).size:=by
   obtain ⟨runs,rest,ea,el,er,em⟩:=R.ex
   have q:=em.length
   rw[A5] at q
   have:=m5 λr hr=>(er r hr).2
   lia
  refine Bg (Dn (CC (I:=λx c st'=>c=(none,())/\Rn key κ a0 (Bx st).size st'/\((BI st').size<=1\/(BI st').size+x<=(Bx st).size)) (Q:=λc st'=>c=(none,())/\Rn key κ a0 (Bx st).size st'/\(BI st').size<=1) ?stepB ?finB ⟨rfl,R,.inr (by lia)⟩) ?postB)
  case finB =>
   rintro c st' ⟨rfl,R,q⟩
   exact ⟨rfl,R,by lia⟩
  case stepB =>
   rintro x c st' _ hx ⟨rfl,R,q⟩
   refine Bg (F1 ?_)
   by_cases c1:(BI st').size<=1
   ·rw[if_pos c1]
    exact Bq ⟨rfl,R,c1⟩
   rw[if_neg c1]
   refine Bg (o9 C hu R (zK (by lia)) λst2 R2 s2 _ =>?_)
   simp only[CL,Bk,if_false]
   exact Bq ⟨rfl,R2,by lia⟩
  case postB =>
   rintro c st' ⟨rfl,R,q⟩
   obtain ⟨runs,rest,ea,el,er,em⟩:=R.ex
   have lm:=em.length
   rw[A5] at lm
   have lr:=congrArg List.length ea
   rw[A5,szR R,AR,el] at lr
   have er0:rest=[]:=ET.mp (by lia)
   subst er0
   rw[B7] at ea
   match runs,er,lm,el,ea with
   | [],_,_,el,_=>simp at el;lia
   | [r],er,_,_,ea =>
    have e:(Bx st').toList=r:=by rw[ea];simp
    exact Bq (h st' R.perm (by rw[e];exact (er r (by simp)).1) R.f)
   | _ :: _ :: _,_,lm,_,_=>simp at lm;lia
 case step =>
  rintro x c st1 _ hx ⟨lo,rfl,l1,l2,R⟩
  dsimp only
  by_cases cl:lo≥(Bx st).size
  ·rw[if_pos cl]
   obtain rfl:lo=(Bx st).size:=by lia
   exact Bq ⟨rfl,R⟩
  rw[if_neg cl]
  have s1:=szR R
  refine Bg (xM C R.k (uR R) (by lia) (by lia) λn st2 n1 n2 sa2 up2 =>?_)
  dsimp only
  have R2:=R.sa sa2
  have s2:=szR R2
  by_cases cm:n<mrn (Bx st).size (Bx st).size 0
  case' pos =>
   rw[if_pos cm]
   refine Bg (Gm (D3 ⟨rfl,?_⟩))
   obtain ⟨fo,e⟩:∃fo,fo=min ((Bx st).size-lo) (mrn (Bx st).size (Bx st).size 0):=⟨_,rfl⟩
   rw[<- e]
   refine Bg (vT C R2.k (uR R2) (by lia) (by lia) up2 λst3 sa3 up3 =>?_)
   simp only[CL,Bk,if_false]
   have R3:=R2.sa sa3
   have f0:0<fo:=by lia
   have f1:lo+fo<=(Bx st).size:=by lia
  case' neg =>
   rw[if_neg cm]
   obtain ⟨fo,e⟩:∃fo,fo=n:=⟨_,rfl⟩
   subst e
   obtain ⟨st3,e3⟩:∃st3,st3=st2:=⟨_,rfl⟩
   subst e3
   have R3:=R2
   have up3:=up2
   have f0:0<fo:=n1
   have f1:lo+fo<=(Bx st).size:=by lia
  all_goals
   have srt:=uy up3
   have s3:=szR R3
   refine Bg (F1 ?_)
   cases hbk:(BI st3).back? with
   | none =>
    dsimp only
    exact Bg (DG (Bq ⟨lo+fo,rfl,by lia,f1,R3.push f0 (by lia) srt⟩))
   | some t =>
    obtain ⟨t1,t2,t3⟩:=t
    dsimp only
    refine Bg (Dn (CC (I:=λ_ c st'=>c=(none,())/\Rn key κ a0 lo st'/\(Bx st').toList.drop lo=(Bx st3).toList.drop lo) (Q:=λc st'=>c=(none,())/\Rn key κ a0 lo st'/\(Bx st').toList.drop lo=(Bx st3).toList.drop lo) ?stepC ?finC ⟨rfl,R3,rfl⟩) ?postC)
    case finC=>exact λc st' q=>q
    case stepC =>
     rintro z c st4 _ _ ⟨rfl,R4,d4⟩
     refine Bg (F1 ?_)
     by_cases p1:(BI st4).size>1
     ·rw[if_pos p1]
      have lt:(BI st4).size-2<(BI st4).size:=by lia
      have e:(BI st4)[(BI st4).size-2]? = some (BI st4)[(BI st4).size-2]:=by simp[lt]
      rw[e]
      dsimp only
      split
      ·exact Bq ⟨rfl,R4,d4⟩
      ·refine Bg (o9 C hu R4 (by lia) λst5 R5 _ d5 =>?_)
       simp only[CL,Bk,if_false]
       exact Bq ⟨rfl,R5,d5.trans d4⟩
     ·rw[if_neg p1]
      exact Bq ⟨rfl,R4,d4⟩
    case postC =>
     rintro c st4 ⟨rfl,R4,d4⟩
     dsimp only
     have s4:=szR R4
     refine Bg (DG (Bg (DG (Bq ⟨lo+fo,rfl,by lia,f1,?_⟩))))
     refine Rn.push ?_ f0 ?_ ?_
     ·refine Rn.mod R4 _ _ ?_
      exact λp=>⟨rfl,rfl⟩
     ·show lo+fo<=(Bx st4).size
      lia
     ·show (((Bx st4).toList.drop lo).take fo).Pairwise (Le key)
      rw[d4]
      exact srt
end
open PySem PyProof.Rows
structure iM (prog:Bi)(w:BQ)(s:A1)(vs:List AS)(O:Fw)(key:AS->O.α):Prop where
 ok:2<=vs.length->∀(A:Cc) (h6:Heap),(∀b o,s.heap.get? b=some o->h6.get? b=some o)->∃κ,(∀(Q:SortKind->A1->Prop) (E:AS->A1->Prop),Q κ { s with heap:=h6 }->Bv (BJ prog w) A (keyKind' vs.toArray) Q E { s with heap:=h6 }) ∧
  Cmp prog w A { s with heap:=h6 } O (λp=>key p.1) (λp=>p.1=p.2/\p.1∈vs) κ
section
variable  {prog:Bi}{w:BQ}{A:Cc}{E:AS->A1->Prop}{s:A1}{O:Fw}{key:AS->O.α}
theorem zs:∀vs:List AS,(vs.zip vs).map (·.2)=vs
 | []=>rfl
 | v :: vs=>by rw[Hw,BF,zs vs]
theorem pf {l:List Bp}{vs:List AS}(h:l.Perm (vs.zip vs)):(l.map (·.2)).Perm vs/\∀p∈l,p.1=p.2/\p.1∈vs:=by
 have e:=zs vs
 refine ⟨by have:=h.map (·.2);rw[e] at this;exact this,λp hp =>?_⟩
 have m:=h.mem_iff.mp hp
 obtain ⟨i,hi⟩:=Bj.mp m
 rw[CI] at hi
 have e1:=hi.1.symm.trans hi.2
 exact ⟨BC e1,A8 hi.1⟩
theorem dJ {a:Addr}{vs:List AS}{n:Nat}{P:Fin->A1->Prop}(ho:s.heap.get? a=some (seqObj "list" vs.toArray n))(hz:vs.length<=Ba)
    (hc:2<=vs.length->∀h6,(∀b o,b≠a->s.heap.get? b=some o->h6.get? b=some o)->∃κ,(∀(Q:SortKind->A1->Prop) (E:AS->A1->Prop),Q κ { s with heap:=h6 }->Bv (BJ prog w) A (keyKind' vs.toArray) Q E { s with heap:=h6 }) ∧
      Cmp prog w A { s with heap:=h6 } O (λp=>key p.1) (λp=>p.1=p.2/\p.1∈vs) κ)
    (h:∀out:List AS,out.Perm vs->out.Pairwise (λx y=>O.kle (key x) (key y))->P (.done (.ret .none)) { s with heap:=sortedHeap s.heap a vs out.toArray }):Bv (BJ prog w) A (Builtin.«list.sort» ⟨[.ref a],[]⟩) P E s:=by
  rw[list_sort_plain]
  have ha:a<s.heap.objs.size:=Bc ho
  refine AO (Ih ho rfl ?_)
  refine AO (HJ ho rfl ?_ (by rw[AX];exact hz) (BX _))
  obtain ⟨e1,ho1⟩:∃e1,(s.heap.update a (CT λ_ => #[])).get? a=some (seqObj "list" #[] e1):=⟨_,get?_update_seq ho (λ_ => #[])⟩
  refine AO (seqEpoch_at ho1 rfl (AO (wpAny_newTuple ?_ (by exact hz))))
  refine AO (Fy ?_ (BX _))
  refine B8 ?_
  generalize hH:((s.heap.update a (CT λ_ => #[])).push (seqObj "tuple" vs.toArray 0)).push (seqObj "list" #[] 0)=h6
  have kp:∀b o,b≠a->s.heap.get? b=some o->h6.get? b=some o:=λb o nb e=>by
    rw[<- hH]
    refine AU _ (AU _ ?_)
    rw[Hh _ _ _ _ nb]
    exact e
  have ho6:h6.get? a=some (seqObj "list" #[] e1):=by
    rw[<- hH]
    exact AU _ (AU _ ho1)
  have eH:∀out:List AS,sortedHeap s.heap a vs out.toArray=h6.update a (CT λ_=>out.toArray):=λout=>by rw[<- hH];rfl
  have go:∀st':BO,(Bx st').toList.Perm (vs.zip vs)->(Bx st').toList.Pairwise (λp q=>O.kle (key p.1) (key q.1))->failedOf st'=none →
      Bv (BJ prog w) A (do
        let sorted:=(Bx st').map (·.2)
        let touched:=(← seqEpoch a) != e1
        Builtin.List.listUpdate (.ref a) λ_=>sorted
        if let some e:=failedOf st' then rule "list.sort.comparison-raised";throw e
        if touched then rule "list.sort.modified";raiseError "ValueError" "list modified during sort"
        ret .none) P E { s with heap:=h6 }:=by
    intro st' pm ps hf
    obtain ⟨z1,z2⟩:=pf pm
    have em:(Bx st').map (·.2)=((Bx st').toList.map (·.2)).toArray:=by
      apply Fm.mp
      rw[Fn]
    dsimp only
    refine AO (seqEpoch_at ho6 rfl ?_)
    refine AO (HJ ho6 rfl ?_ (BX _) (by rw[B6, <- A5,pm.length_eq,EU,GN];lia))
    rw[hf]
    simp only[bne_self_eq_false,Bk,if_false]
    refine AV ?_
    rw[em, <- eH]
    refine h _ z1 (BW.mpr (ps.imp_of_mem λ{p q} hp hq le =>?_))
    rw[<- (z2 p hp).1, <- (z2 q hq).1]
    exact le
  by_cases h2:vs.toArray.size<2
  · rw[if_pos h2,if_pos h2]
    refine AO (AV ?_)
    dsimp only
    rw[StateT.run_pure]
    refine AO (AV ?_)
    refine go (SortSt.mk' general' (vs.toArray.zip vs.toArray) #[] 7 none) (by show (vs.toArray.zip vs.toArray).toList.Perm _;simp) ?_ rfl
    rw[AX] at h2
    have et:(vs.toArray.zip vs.toArray).toList=vs.zip vs:=by simp
    show (vs.toArray.zip vs.toArray).toList.Pairwise (λ(p q:Bp)=>O.kle (key p.1) (key q.1))
    rw[et]
    have short:∀us:List AS,us.length<2->(us.zip us).Pairwise (λ(p q:Bp)=>O.kle (key p.1) (key q.1)):=λus hu=>by
      match us,hu with
      | [],_=>exact List.Pairwise.nil
      | [v],_=>exact CO _ _
      | _ :: _ :: _,hu=>simp only[BP] at hu;lia
    exact short vs h2
  · rw[if_neg h2,if_neg h2]
    rw[AX] at h2
    obtain ⟨κ,k1,C⟩:=hc (by lia) h6 kp
    refine AO (k1 _ _ ?_)
    have et:(vs.toArray.zip vs.toArray).toList=vs.zip vs:=by simp
    refine AO (DF (vV C (E:=E) (a0:=vs.zip vs) (st:=SortSt.mk' κ (vs.toArray.zip vs.toArray) #[] 7 none)
      (Q:=λ_ st'=>(Bx st').toList.Perm (vs.zip vs)/\(Bx st').toList.Pairwise (Le λ(p:Bp)=>key p.1)/\failedOf st'=none)
      (pf (Eo _)).2 et rfl rfl rfl (by rw[EU,GN];lia) λst' a1 a2 a3=>⟨a1,a2,a3⟩) ?_ λ_ _ e=>e)
    rintro ⟨⟨⟩,st'⟩ s' ⟨rfl,hp,hs,hf⟩
    exact go st' hp hs hf
def ph (prog:Bi)(w:BQ)(s:A1)(v:AS)(vs:List AS):Prop :=
 ∀(A:Cc) (E:AS->A1->Prop) (R:List AS->A1->Prop),(∀h1,(∀b o,s.heap.get? b=some o->h1.get? b=some o)->s.heap.objs.size<=h1.objs.size->R vs { s with heap:=h1 })->Bv (BJ prog w) A (collect v) R E s
theorem kN {v:AS}{vs:List AS}{Q:AS->A1->Prop}(hv:ph prog w s v vs)(hz:vs.length<=Ba)(C:iM prog w s vs O key)
  (h:∀(h':Heap) (p:Addr) (out:List AS) (n:Nat),(∀b o,s.heap.get? b=some o->h'.get? b=some o)->s.heap.objs.size<=p->h'.get? p=some (seqObj "list" out.toArray n)->out.Perm vs->out.Pairwise (λx y=>O.kle (key x) (key y))->Q (.ref p) { s with heap:=h' }) :
  Bv (BJ prog w) A (call (.builtin "sorted") [v]) Q E s:=by
 refine Er IL Ii Ij (Ik _) ?_
 unfold Builtin.«sorted»
 refine AO (m:=checkCount "sorted" 1 1 _) (AV ?_)
 refine AO (hv _ _ _ λh1 k1 z1=>AO (Fy ?_ hz))
 have hoL:(h1.push (seqObj "list" vs.toArray 0)).get? h1.objs.size=some (seqObj "list" vs.toArray 0):=Bd _ rfl
 have kL:∀b o,s.heap.get? b=some o->(h1.push (seqObj "list" vs.toArray 0)).get? b=some o:=λb o e=>AU _ (k1 b o e)
 refine AO (B8 (Dx slot_list_sort ⟨_,hoL,rfl⟩ entry_list_sort (dJ (key:=key) (O:=O) hoL hz (λh2 h6 k6 =>?_) λout pm ps=>⟨_,rfl,?_⟩) (Hd _)))
 ·exact C.ok h2 _ h6 λb o e=>k6 b o (Bz (Bm (Bc e) z1)) (kL b o e)
 ·obtain ⟨n,en⟩:=HK (out:=out.toArray) hoL
  refine AV ⟨_,rfl,h _ _ out n (λb o e =>?_) z1 en pm ps⟩
  have lt:=Bm (Bc e) z1
  rw[He (Bz lt) (by rw[Ib];exact Cy lt)]
  exact kL b o e
theorem iN {l:Addr}{o:Obj}{vs:List AS}{n:Nat}(ho:s.heap.get? l=some o)(hc:o.cls = .type "list" \/ o.cls = .type "tuple")(hd:o.data = .seq vs.toArray n)(hz:vs.length<=Ba):ph prog w s (.ref l) vs:=by
  intro A E R h
  unfold collect
  refine AO (Es (BR entry_proto_collect' ?_))
  show Bv _ _ (do again (.builtin "list.__iadd__" ⟨[<- newList [],.ref l],[]⟩)) _ _ s
  refine AO (Fy (AV ⟨FO _ (by decide +kernel),BR entry_list_iadd' ?_⟩))
  show Bv _ _ (Cz (.ref s.heap.objs.size) (.ref l) (.ref s.heap.objs.size)) _ _ { s with heap:=s.heap.push (seqObj "list" #[] 0) }
  unfold Cz
  have ho':(s.heap.push (seqObj "list" #[] 0)).get? l=some o:=AU _ ho
  have cond:∀T,o.cls = .type T->(T = "list" \/ T = "tuple")->Bv (BJ prog w) A (typeOf (.ref l)) (λt s'=>t = .type T/\s'={ s with heap:=s.heap.push (seqObj "list" #[] 0) }) E { s with heap:=s.heap.push (seqObj "list" #[] 0) }:=λT e _=>Dr (T:=T) ⟨o,ho',e⟩ ⟨rfl,rfl⟩
  obtain ⟨T,eT,hT⟩:∃T,o.cls = .type T/\(T = "list" \/ T = "tuple"):=by
    rcases hc with hc | hc
    · exact ⟨_,hc,.inl rfl⟩
    · exact ⟨_,hc,.inr rfl⟩
  refine AO (Dr (T:=T) ⟨o,ho',eT⟩ ?_)
  rw[if_pos (by rcases hT with rfl | rfl <;> simp)]
  refine AO (Ih ho' hd ?_)
  refine AO (Ih (xs := #[]) (n:=0) (Bd _ rfl) rfl ?_)
  rw[if_neg (by simp)]
  refine AO (HJ (xs := #[]) (n:=0) (Bd _ rfl) rfl ?_ (BX _) (by show (#[]++vs.toArray).size<=Ba+1;simp only[Em,AX,EV];lia))
  refine AV ?_
  show Bv (BJ prog w) A (do
      let o ← load s.heap.objs.size
      match o.data with
      | .seq xs _=>pure xs.toList
      | _=>unsupported "internal:collect") R E { s with heap:=(s.heap.push (seqObj "list" #[] 0)).update s.heap.objs.size (CT (· ++ vs.toArray)) }
  refine AO (G4 (get?_update_seq (Bd _ rfl) _) ?_)
  show Bv _ _ (pure ((#[]:Array AS)++vs.toArray).toList) R E _
  rw[show ((#[]:Array AS)++vs.toArray).toList=vs by simp]
  refine AV (h _ (λb ob e =>?_) ?_)
  · rw[Hh _ _ _ _ (Bz (Bc e))]
    exact AU _ e
  · rw[Heap.size_update,Ib]
    exact Gg _
end
open PySem PyProof.Rows
def qE:Fw where
 α:=Int
 blt:=λa b=>decide (a<b)
 irrefl:=λa=>by simp
 trans:=λa b c h1 h2=>by simp at *;lia
 negTrans:=λa b c h=>by simp at *;lia
 total:=λa b h1 h2=>by simp at *;lia
theorem lex_irrefl:∀a,HT.lexLt a a=false
 | []=>rfl
 | x :: xs=>by rw[HT.cZ,if_pos rfl];exact lex_irrefl xs
theorem lex_trans:∀a b c,HT.lexLt a b=true->HT.lexLt b c=true->HT.lexLt a c=true
 | [],[],_,h,_=>by cases h
 | [],_ :: _,[],_,h=>by cases h
 | [],_ :: _,_ :: _,_,_=>rfl
 | _ :: _,[],_,h,_=>by cases h
 | _ :: _,_ :: _,[],_,h=>by cases h
 | x :: xs,y :: ys,z :: zs,h1,h2=>by
  rw[HT.cZ] at *
  by_cases e1:x=y
  ·subst e1
   rw[if_pos rfl] at h1
   by_cases e2:x=z
   ·rw[if_pos e2] at h2 ⊢
    exact lex_trans xs ys zs h1 h2
   ·rw[if_neg e2] at h2 ⊢
    exact h2
  ·rw[if_neg e1] at h1
   have l1:=of_decide_eq_true h1
   by_cases e2:y=z
   ·subst e2
    rw[if_neg e1]
    exact h1
   ·rw[if_neg e2] at h2
    have l2:=of_decide_eq_true h2
    rw[if_neg (by omega)]
    exact decide_eq_true (by omega)
theorem gH:∀a b,HT.lexLt a b=false->HT.lexLt b a=false->a=b
 | [],[],_,_=>rfl
 | [],_ :: _,h,_=>by cases h
 | _ :: _,[],_,h=>by cases h
 | x :: xs,y :: ys,h1,h2=>by
  rw[HT.cZ] at *
  by_cases e:x=y
  ·subst e
   rw[if_pos rfl] at h1 h2
   rw[gH xs ys h1 h2]
  ·rw[if_neg e] at h1
   rw[if_neg (C7 e)] at h2
   have a1:=of_decide_eq_false h1
   have a2:=of_decide_eq_false h2
   omega
theorem xN (a b c:List Int)(h:HT.lexLt a c=true):HT.lexLt a b=true\/HT.lexLt b c=true:=by
 cases h1:HT.lexLt a b with
 | true=>exact .inl rfl
 | false =>
  right
  cases h2:HT.lexLt b a with
  | true=>exact lex_trans b a c h2 h
  | false=>rw[<- gH a b h1 h2];exact h
def lexOrd:Fw where
 α:=List Int
 blt:=HT.lexLt
 irrefl:=lex_irrefl
 trans:=lex_trans
 negTrans:=xN
 total:=gH
def intOf:AS->Int
 | .int i _=>i
 | _=>0
section
variable  {prog:Bi}{w:BQ}{A:Cc}{E:AS->A1->Prop}{s:A1}
theorem iO:∀{vs:List AS} {ns:List Int},DL vs ns->∀v∈vs,∃i t,v = .int i t
 | _,_,.nil,v,h=>by cases h
 | _,_,.cons n t r,v,h=>by
  rcases Bs.mp h with e | e
  ·exact ⟨n,t,e⟩
  ·exact iO r v e
theorem iP {vs:List AS}{ns:List Int}(hI:DL vs ns):iM prog w s vs qE intOf:=by
 refine ⟨λh2 A h6 _=>⟨oneType',λQ E q =>?_,⟨λE st x y Q hk hx hy q =>?_⟩⟩⟩
 ·match vs,h2,hI with
  | v1 :: v2 :: rest,_,hI =>
   rw[keyKind_ints hI]
   exact AV q
  | [],h2,_=>simp at h2
  | [_],h2,_=>simp at h2
 ·obtain ⟨i,t,e1⟩:=iO hI _ hx.2
  obtain ⟨j,u,e2⟩:=iO hI _ hy.2
  rw[lt'_eq]
  refine Bg (F1 ?_)
  rw[hk,keyLt'_oneType,e1,e2]
  refine Bg (Gm (HL (oneLt_int ⟨rfl,?_⟩)))
  refine Bq ?_
  have q':Q (some (decide (intOf x.1<intOf y.1))) st:=q
  rw[e1,e2] at q'
  exact q'
def cE (h:Heap)(v:AS):List Int:=match v with
 | .ref p=>match h.get? p with
  | some o=>match o.data with
   | .seq xs _=>xs.toList.map intOf
   | _=>[]
  | none=>[]
 | _=>[]
def c9 (h:Heap)(v:AS)(ns:List Int):Prop:=∃p o xs n,v = .ref p/\h.get? p=some o/\o.cls = .type "tuple" /\ o.data = .seq xs n/\DL xs.toList ns
theorem ints_map:∀{vs:List AS} {ns:List Int},DL vs ns->vs.map intOf=ns
 | _,_,.nil=>rfl
 | _,_,.cons n t r=>by rw[BF,ints_map r];rfl
theorem c9.ints {h:Heap}{v:AS}{ns:List Int}(x:c9 h v ns):cE h v=ns:=by
 obtain ⟨p,o,xs,n,rfl,e,_,d,r⟩:=x
 unfold cE
 dsimp only
 rw[e]
 dsimp only
 rw[d]
 exact ints_map r
theorem c9.keeps {h h':Heap}{v:AS}{ns:List Int}(x:c9 h v ns)(k:∀b o,h.get? b=some o->h'.get? b=some o):c9 h' v ns:=by
 obtain ⟨p,o,xs,n,rfl,e,r⟩:=x
 exact ⟨p,o,xs,n,rfl,k _ _ e,r⟩
theorem pk {fin:Bool}{Q:Bool->A1->Prop}:∀{us ws:List AS} {ns ms:List Int} (i:Nat),DL us ns->DL ws ms->(fin=true↔(decide (ns.length<ms.length)=true))->Q (HT.lexLt ns ms) s →
  PySem.W.KatLex prog w A true fin Q (us.zip ws) i s
 | _,_,_,_,i,.nil,.nil,hf,q=>by
  refine GO ?_
  have e:fin=false:=by cases fin with
   | false=>rfl
   | true=>have:=hf.mp rfl;simp at this
  rw[e];exact q
 | _,_,_,_,i,.nil,.cons _ _ _,hf,q=>by
  refine GO ?_
  have e:fin=true:=hf.mpr (by simp)
  rw[e];exact q
 | _,_,_,_,i,.cons _ _ _,.nil,hf,q=>by
  refine GO ?_
  have e:fin=false:=by cases fin with
   | false=>rfl
   | true=>have:=hf.mp rfl;simp at this
  rw[e];exact q
 | _,_,_,_,i,.cons (ns:=ns) a t r,.cons (ns:=ms) c u r',hf,q=>by
  rw[Hw]
  refine PySem.W.kat_cons (wpAny_eqBool_int ?_)
  rw[HT.cZ] at q
  by_cases e:a=c
  ·rw[if_pos e] at q
   rw[beq_iff_eq.mpr e]
   exact PySem.W.kat_yes (pk (i+1) r r' (by rw[hf];simp) q)
  ·rw[if_neg e] at q
   rw[beq_eq_false_iff_ne.mpr e]
   refine PySem.W.kat_no ?_
   by_cases i0:(true && i == 0)=true
   ·rw[i0]
    exact oneLt_int q
   ·rw[E8.mpr i0,oneLt'_eq]
    simp only[Bk,if_false]
    refine AO (HT.vz _ _ a t c u prog w _ _ ?_)
    exact C3 q
theorem kO {h:Heap}:∀{vs:List AS},(∀v∈vs,∃ns,c9 h v ns/\ns≠[])->∃fs,PySem.W.KatTups h vs fs/\fs.length=vs.length/\∀f∈fs,∃i t,f = .int i t
 | [],_=>⟨[],trivial,rfl,λf hf=>by cases hf⟩
 | v :: vs,hv=>by
  obtain ⟨fs,t,l,hf⟩:=kO λu hu=>hv u (Br _ hu)
  obtain ⟨ns,⟨p,o,xs,n,rfl,e,c,d,r⟩,ne⟩:=hv v Be
  have hx:∃i t,xs[0]? = some (.int i t):=by
   rw[<- A9]
   generalize xs.toList=l at r
   cases r with
   | nil=>exact absurd rfl ne
   | cons i t r=>exact ⟨i,t,rfl⟩
  obtain ⟨i,t',hx⟩:=hx
  exact ⟨.int i t' :: fs,Ji e c d hx t,by rw[BP,BP,l],λf hf'=>by
   rcases Bs.mp hf' with q | q
   ·exact ⟨i,t',q⟩
   ·exact hf f q⟩
theorem iQ {vs:List AS}(hv:∀v∈vs,∃ns,c9 s.heap v ns/\ns≠[]):iM prog w s vs lexOrd (cE s.heap):=by
 refine ⟨λh2 A h6 k6=>⟨tuples' true,λQ E q =>?_,⟨λE st x y Q hk hx hy q =>?_⟩⟩⟩
 ·obtain ⟨fs,t,l,hf⟩:=kO (h:=h6) (vs:=vs) λv hv'=>by
   obtain ⟨ns,i,ne⟩:=hv v hv'
   exact ⟨ns,i.keeps k6,ne⟩
  refine PySem.W.kat_kind (T :=.type "int") t (by lia) (λf hf' =>?_) rfl q
  obtain ⟨i,t',rfl⟩:=hf f hf'
  exact Jh rfl
 ·obtain ⟨ns,i1,_⟩:=hv _ hx.2
  obtain ⟨ms,i2,_⟩:=hv _ hy.2
  have q':Q (some (HT.lexLt (cE s.heap x.1) (cE s.heap y.1))) st:=q
  rw[i1.ints,i2.ints] at q'
  obtain ⟨p1,o1,xs1,n1,e1,g1,c1,d1,r1⟩:=i1.keeps k6
  obtain ⟨p2,o2,xs2,n2,e2,g2,c2,d2,r2⟩:=i2.keeps k6
  rw[lt'_eq]
  refine Bg (F1 ?_)
  rw[hk,e1,e2]
  have l1:=r1.length
  have l2:=r2.length
  refine Bg (Gm (HL (PySem.W.kat_lt g1 d1 g2 d2 (pk 0 r1 r2 ?_ ⟨rfl,?_⟩))))
  ·rw[<- l1, <- l2,A5,A5]
  ·exact Bq q'
end
end Srt
namespace L2
open PySem PySem.Spec PyProof.Rows
theorem kP {α β:Type}{f:α -> β}:∀{l:List β} {m:List α},l.Perm (m.map f)->∃m':List α,m'.Perm m/\l=m'.map f:=by
 intro l m h
 generalize hk:m.map f=k at h
 induction h generalizing m with
 | nil =>
  have:m=[]:=List.map_eq_nil_iff.mp hk
  exact ⟨[],by rw[this],rfl⟩
 | cons x _ ih =>
  match m,hk with
  | y :: m,hk =>
   rw[BF] at hk
   injection hk with h1 h2
   obtain ⟨m',p,e⟩:=ih h2
   exact ⟨y :: m',p.cons y,by rw[BF, <- e,h1]⟩
  | [],hk=>cases hk
 | swap x y l =>
  match m,hk with
  | a :: b :: m,hk =>
   rw[BF,BF] at hk
   injection hk with h1 h2
   injection h2 with h2 h3
   exact ⟨b :: a :: m,List.Perm.swap a b m,by rw[BF,BF,h1,h2,h3]⟩
  | [],hk=>cases hk
  | [_],hk=>simp at hk
 | trans _ _ ih1 ih2 =>
  obtain ⟨m',p,e⟩:=ih2 hk
  obtain ⟨m'',p',e'⟩:=ih1 e.symm
  exact ⟨m'',p'.trans p,e'⟩
theorem cw:∀{ns:List Int} {us:List AS},Vals (ns.map V.int) us->DL us ns:=λr=>intsAre_of r
theorem fg:∀{us:List AS} {ns:List Int},DL us ns->Vals (ns.map V.int) us:=λr=>jq r
theorem dZ:∀{us:List AS},(∀u∈us,∃i t,u=CQ i t)->DL us (us.map Srt.intOf)
 | [],_ =>.nil
 | u :: us,h=>by
  obtain ⟨i,t,e⟩:=h u Be
  subst e
  exact .cons i t (dZ λv hv=>h v (Br _ hv))
theorem d7:∀{α:Type} {f:α -> Addr} {ps:List α} {us:List AS},Vals (ps.map λx=>V.ref (f x)) us->us=ps.map λx=>Bl (f x)
 | _,_,[],_,r=>by cases r;rfl
 | _,f,p :: ps,_,r=>by
  cases r with
  | cons h t=>rw[BF, <- d7 t,show _=Bl (f p) from h]
theorem gI {α:Type}{f:α -> Addr}:∀{ps:List α},Vals (ps.map λx=>V.ref (f x)) (ps.map λx=>Bl (f x))
 | [] =>.nil
 | p :: ps =>.cons rfl gI
section
variable  {X:Cx}
theorem Inv.pq {pins:List (Addr×Obj)}{σ:St}{H:Hp}{s:A1}{p:Addr}{ys:List V}(I:Inv X pins σ H s)(h:SqL X.K H p ys\/SqT X.K H p ys) :
  ∃(its:List AS) (o:Obj) (n:Nat),Vals ys its/\s.heap.get? p=some o/\(o.cls = .type "list" \/ o.cls = .type "tuple")/\o.data = .seq its.toArray n/\ys.length<=Ba:=by
 rcases h with h | h
 ·obtain ⟨its,r,⟨o,n,e,c,_,d⟩,z⟩:=I.list h
  exact ⟨its,o,n,r,e,.inl c,d,z⟩
 ·obtain ⟨its,r,⟨o,e,c,n,d⟩,z⟩:=I.tuple h
  exact ⟨its,o,n,r,e,.inr c,d,z⟩
theorem Inv.newList {pins:List (Addr×Obj)}{σ:St}{H:Hp}{s:A1}{h':Heap}{p:Addr}{ys:List V}{its:List AS}{n:Nat}(I:Inv X pins σ H s)(k:∀b o,s.heap.get? b=some o->h'.get? b=some o)(hp:s.heap.objs.size<=p)
  (e:h'.get? p=some { cls :=.type "list",data :=.seq its.toArray n }) (r:Vals ys its) (hz:ys.length<=Ba):Inv X pins σ (upd H p (.lst ys)) { s with heap:=h' } :=
 I.laid (t':=s.toks) k hp ⟨hz,its,n,r,e⟩
theorem iR:bK X (.builtin "sorted") (λxs H Q=>∃(p:Addr) (ns:List Int),xs=[.ref p]/\(SqL X.K H p (ns.map V.int)\/SqT X.K H p (ns.map V.int))/\∀(l:Addr) (out:List Int),H l=none->out.Perm ns->out.Pairwise (· <= ·)->Q (.ref l) (upd H l (.lst (out.map V.int)))):=by
 intro pins s σ H xs us Q I r h
 obtain ⟨p,ns,rfl,hs,q⟩:=h
 obtain ⟨u,rfl,ru⟩:=vals1 r
 cases (show u=Bl p from ru)
 obtain ⟨its,o,n,rv,e,c,d,z⟩:=I.pq hs
 have hI:=cw rv
 have lz:its.length<=Ba:=by rw[<- rv.length];exact z
 refine Srt.kN (Srt.iN e c d lz) lz (Srt.iP hI) λh' l out m k hl el pm ps =>?_
 have hm:∀v∈out,∃i t,v=CQ i t:=λv hv=>Srt.iO hI v (pm.mem_iff.mp hv)
 have hO:=dZ hm
 have pm':(out.map Srt.intOf).Perm ns:=by
  have:=pm.map Srt.intOf
  rw[Srt.ints_map hI] at this
  exact this
 refine ⟨.ref l,_,I.newList k hl el (fg hO) (by rw[AN,pm'.length_eq, <- AN (f:=V.int)];exact z),rfl,q l _ (I.hok.fresh hl) pm' ?_⟩
 refine BW.mpr (ps.imp λ{x y} le =>?_)
 have le':decide (Srt.intOf y<Srt.intOf x)=false:=le
 have:=of_decide_eq_false le'
 lia
theorem fh:bK X (.builtin "sorted") (λxs H Q=>∃(p:Addr) (ts:List (Addr×List Int)),xs=[.ref p]/\(SqL X.K H p (ts.map λt =>.ref t.1)\/SqT X.K H p (ts.map λt =>.ref t.1))/\(∀t∈ts,SqT X.K H t.1 (t.2.map V.int)/\t.2≠[]) ∧
  ∀(l:Addr) (out:List (Addr×List Int)),H l=none->out.Perm ts->out.Pairwise (λa b=>HT.lexLt b.2 a.2=false)->Q (.ref l) (upd H l (.lst (out.map λt =>.ref t.1)))):=by
 intro pins s σ H xs us Q I r h
 obtain ⟨p,ts,rfl,hs,ht,q⟩:=h
 obtain ⟨u,rfl,ru⟩:=vals1 r
 cases (show u=Bl p from ru)
 obtain ⟨its,o,n,rv,e,c,d,z⟩:=I.pq hs
 have ei:=d7 rv
 have lz:its.length<=Ba:=by rw[<- rv.length];exact z
 have tup:∀t∈ts,Srt.c9 s.heap (Bl t.1) t.2:=λt hm=>by
  obtain ⟨jts,jr,⟨jo,je,jc,jn,jd⟩,_⟩:=I.tuple (ht t hm).1
  exact ⟨t.1,jo,_,jn,rfl,je,jc,jd,by simpa using cw jr⟩
 have hv:∀v∈its,∃ns,Srt.c9 s.heap v ns/\ns≠[]:=λv hv=>by
  rw[ei] at hv
  obtain ⟨t,hm,rfl⟩:=Bh.mp hv
  exact ⟨t.2,tup t hm,(ht t hm).2⟩
 refine Srt.kN (Srt.iN e c d lz) lz (Srt.iQ hv) λh' l out m k hl el pm ps =>?_
 rw[ei] at pm
 obtain ⟨out',pm',rfl⟩:=kP pm
 refine ⟨.ref l,_,I.newList k hl el gI (by rw[AN,pm'.length_eq, <- AN (f:=λt:Addr×List Int=>V.ref t.1)];exact z),rfl,q l _ (I.hok.fresh hl) pm' ?_⟩
 refine (BW.mp ps).imp_of_mem λ{a b} ha hb le =>?_
 have le':HT.lexLt (Srt.cE s.heap (Bl b.1)) (Srt.cE s.heap (Bl a.1))=false:=le
 rw[(tup a (pm'.mem_iff.mp ha)).ints,(tup b (pm'.mem_iff.mp hb)).ints] at le'
 exact le'
end
open PySem PySem.Spec PyProof.Rows
def px (a b:List Int):Prop:=HT.lexLt b a=false
theorem kQ:∀{l m:List (List Int)},l.Perm m->l.Pairwise px->m.Pairwise px->l=m
 | [],m,p,_,_=>(List.Perm.nil_eq p)
 | a :: l,[],p,_,_=>absurd p.length_eq (by simp)
 | a :: l,b :: m,p,h1,h2=>by
  have e:a=b:=by
   have ha:a∈b :: m:=p.mem_iff.mp Be
   have hb:b∈a :: l:=p.mem_iff.mpr Be
   rcases Bs.mp ha with z | z
   ·exact z
   rcases Bs.mp hb with y | y
   ·exact y.symm
   have q1:=(CA.mp h1).1 b y
   have q2:=(CA.mp h2).1 a z
   exact Srt.gH a b q2 q1
  subst e
  rw[kQ ((List.perm_cons a).mp p) (CA.mp h1).2 (CA.mp h2).2]
open PySem PySem.Spec PyProof.Rows
section
variable  {X:Cx}{tg:Expr}
end
theorem d9 {X:Cx}{K:A0}{x y:Str}{i j k:Nat}{p p' pos:Pos}(hN:X.N.Nodup)(hi:X.N[i]? = some x)(hj:X.N[j]? = some y)(hx:Loc X.env.scope x)(hy:Loc X.env.scope y)(hc:X.calm=true:=by rfl)(h:X.K=K:=by rfl)
  (hf:X.fn x=true\/X.env.scope.names.lookup x=some .local:=by first | exact .inl rfl | exact .inr rfl) (hg:X.fn y=true\/X.env.scope.names.lookup y=some .local:=by first | exact .inl rfl | exact .inr rfl):PG X (.Tuple [.Name x p,.Name y p'] k pos) (yB K i j):=by
 subst h
 exact y9 hc (oY (aJ hN hi hx hf) (oY (aJ hN hj hy hg) w9))
end L2
namespace STab
open PySem PySem.SetTable
def nX (xs:Array Nat):Prop:=∀i j a b:Nat,xs[i]? = some a->xs[j]? = some b->i<j->a<b
theorem vW {xs:Array Nat}(R:nX xs)(j:Nat):∀(fuel lo hi:Nat),lo<=hi->hi<=xs.size->hi-lo<=fuel →
  (∀i a,i<lo->xs[i]? = some a->a<j)->(∀i a,hi<=i->xs[i]? = some a->j<=a) →
  below.go xs j fuel lo hi<=xs.size/\(∀i a,xs[i]? = some a->(i<below.go xs j fuel lo hi↔a<j)):=by
 intro fuel
 induction fuel with
 | zero =>
  intro lo hi h1 h2 h3 h4 h5
  unfold below.go
  refine ⟨by lia,λi a e=>⟨λq=>h4 i a q e,λq =>?_⟩⟩
  apply Ee
  intro q2
  have:=h5 i a (by lia) e
  lia
 | succ fuel ih =>
  intro lo hi h1 h2 h3 h4 h5
  unfold below.go
  by_cases hl:lo<hi
  ·rw[if_pos hl]
   dsimp only
   have hm:(lo+hi)/2<xs.size:=by lia
   have em:xs[(lo+hi)/2]? = some xs[(lo+hi)/2]:=BE hm
   have eg:xs.getD ((lo+hi)/2) j=xs[(lo+hi)/2]:=by simp[Array.getD,hm]
   rw[eg]
   by_cases hc:xs[(lo+hi)/2]<j
   ·rw[if_pos hc]
    refine ih _ _ (by lia) h2 (by lia) (λi a q e =>?_) h5
    by_cases q2:i=(lo+hi)/2
    ·rw[q2,em] at e;cases e;exact hc
    ·exact Nat.lt_trans (R i _ _ _ e em (by lia)) hc
   ·rw[if_neg hc]
    refine ih _ _ (by lia) (by lia) (by lia) h4 (λi a q e =>?_)
    by_cases q2:i=(lo+hi)/2
    ·rw[q2,em] at e;cases e;lia
    ·have:=R _ i _ _ em e (by lia)
     lia
  ·rw[if_neg hl]
   refine ⟨by lia,λi a e=>⟨λq=>h4 i a q e,λq =>?_⟩⟩
   apply Ee
   intro q2
   have:=h5 i a (by lia) e
   lia
theorem de {xs:Array Nat}(R:nX xs)(j:Nat):below xs j<=xs.size/\∀i a,xs[i]? = some a->(i<below xs j↔a<j) :=
 vW R j _ _ _ (BX _) (AY _) (by lia) (λi a h=>by lia) λi a h e=>by
  rw[Eg (by lia)] at e;cases e
theorem below_at {xs:Array Nat}(R:nX xs){i j:Nat}(h:xs[i]? = some j):below xs j=i:=by
 obtain ⟨h1,h2⟩:=de R j
 have hi:i<xs.size:=by
  apply Ee;intro q;rw[Eg q] at h;cases h
 have a1:¬ i<below xs j:=λq=>by have:=(h2 i j h).mp q;lia
 apply ES (by lia)
 apply Fj
 intro q
 have e:=BE (xs:=xs) (i:=below xs j) (by lia)
 have l1:=R _ _ _ _ e h q
 have:=(h2 _ _ e).mpr l1
 lia
theorem qF {xs:Array Nat}(R:nX xs){i j:Nat}(h:xs[i]? = some j):below xs (j+1)=i+1:=by
 obtain ⟨h1,h2⟩:=de R (j+1)
 have a1:i<below xs (j+1):=(h2 i j h).mpr (by lia)
 apply ES _ a1
 apply Fj
 intro q
 have hk:i+1<xs.size:=by lia
 have e:=BE (xs:=xs) hk
 have l1:=R _ _ _ _ h e (by lia)
 have:=(h2 _ _ e).mp q
 lia
theorem qG {xs:Array Nat}(R:nX xs):below xs 0=0:=by
 obtain ⟨h1,h2⟩:=de R 0
 apply ES _ (BX _)
 apply Fj
 intro q
 have:=(h2 0 _ (BE (by lia))).mp q
 lia
theorem bL {α:Type}(xs:Array α)(p:Nat)(x:α):(insertAt xs p x).toList=xs.toList.take p++x :: xs.toList.drop p:=by
 unfold insertAt
 simp
 rw[Bb (by simp)]
theorem bW {α:Type}(xs:Array α){p:Nat}(hp:p<=xs.size)(x:α)(i:Nat) :
  (insertAt xs p x)[i]? = if i<p then xs[i]? else if i=p then some x else xs[i-1]? := by
 rw[<- A9,bL]
 have hl:(xs.toList.take p).length=p:=by rw[B4,A5];lia
 by_cases h1:i<p
 ·rw[if_pos h1,BK (by lia),Dd,if_pos h1,A9]
 ·rw[if_neg h1,BN (by lia),hl]
  by_cases h2:i=p
  ·rw[if_pos h2,h2,GP];rfl
  ·rw[if_neg h2]
   obtain ⟨d,hd⟩:∃d,i-p=d+1:=⟨i-p-1,by lia⟩
   rw[hd,DB,Dc,A9]
   congr 1;lia
theorem b7 {α:Type}(xs:Array α)(p:Nat)(x:α):(insertAt xs p x).size=xs.size+1:=by
 rw[<- A5,bL,AR,BP,B4,Co,A5]
 lia
theorem insertAt_perm {α:Type}(xs:Array α)(p:Nat)(x:α):(insertAt xs p x).toList.Perm (x :: xs.toList):=by
 rw[bL]
 exact Iq.trans (by rw[C1])
theorem fj {α β:Type}(xs:Array α)(p:Nat)(x:α)(f:α -> β):(insertAt xs p x).map f=insertAt (xs.map f) p (f x):=by
 apply Fm.mp
 rw[Fn,bL,bL,Fn,A3,BF,Gh,Hy]
theorem mz {xs:Array Nat}(R:nX xs){j:Nat}(hj:∀i:Nat,xs[i]? ≠ some j):nX (insertAt xs (below xs j) j):=by
 obtain ⟨h1,h2⟩:=de R j
 intro a b x y ea eb hab
 rw[bW _ h1] at ea eb
 by_cases a1:a<below xs j
 ·rw[if_pos a1] at ea
  have:=(h2 _ _ ea).mp a1
  by_cases b1:b<below xs j
  ·rw[if_pos b1] at eb;exact R _ _ _ _ ea eb hab
  ·rw[if_neg b1] at eb
   by_cases b2:b=below xs j
   ·rw[if_pos b2] at eb;cases eb;exact this
   ·rw[if_neg b2] at eb
    exact R _ _ _ _ ea eb (by lia)
 ·rw[if_neg a1] at ea
  rw[if_neg (by lia),if_neg (by lia)] at eb
  have l1:¬ y<j:=λq=>by have:=(h2 _ _ eb).mpr q;lia
  by_cases a2:a=below xs j
  ·rw[if_pos a2] at ea;cases ea
   have:y≠j:=λq=>hj _ (q ▸ eb)
   lia
  ·rw[if_neg a2] at ea
   exact R _ _ _ _ ea eb (by lia)
def occ (t:SetTable)(j:Nat):Prop:=∃i:Nat,t.place[i]? = some j
theorem jt {t:SetTable}(R:nX t.place){i j:Nat}(h:t.place[i]? = some j):t.slot j = .live i:=by
 unfold SetTable.slot
 dsimp only
 rw[below_at R h,h]
 simp
theorem qH {t:SetTable}(D:t.dummies = #[]){j:Nat}(h:¬ occ t j):t.slot j = .empty:=by
 unfold SetTable.slot
 dsimp only
 have h1:(t.place[below t.place j]? == some j)=false:=by
  rw[beq_eq_false_iff_ne];exact λq=>h ⟨_,q⟩
 rw[h1,D]
 simp[has]
def adv (mask:Nat)(p:Probe):Probe :=
 if p.more>0 then { p with j:=p.j+1,more:=p.more-1 } else
 let (i,perturb):=leap mask p.i p.perturb
 { p with j:=i,more:=runEnd mask i-i,i,perturb }
def cH (mask i perturb:Nat):Probe:={ j:=i,more:=runEnd mask i-i,i,perturb,dummy:=none }
def start (mask:Nat)(h:Int):Probe:=cH mask (bits h%(mask+1)) (bits h)
inductive Way (oc:Nat->Prop)(mask:Nat):Nat->Probe->Probe->Prop
 | here (p:Probe):Way oc mask 0 p p
 | step {n:Nat} {p q:Probe}:oc p.j->Way oc mask n (adv mask p) q->Way oc mask (n+1) p q
theorem Way.mono {oc oc':Nat->Prop}{mask n:Nat}{p q:Probe}(m:∀j,oc j->oc' j)(h:Way oc mask n p q):Way oc' mask n p q:=by
 induction h with
 | here p=>exact .here p
 | step a _ ih=>exact .step (m _ a) ih
theorem Way.dummy {oc:Nat->Prop}{mask n:Nat}{p q:Probe}(h:Way oc mask n p q):q.dummy=p.dummy:=by
 induction h with
 | here p=>rfl
 | @step n p q _ _ ih =>
  rw[ih];unfold adv;split <;> rfl
theorem zL {mask:Nat}{p:Probe}(h:p.j+p.more<=mask):(adv mask p).j+(adv mask p).more<=mask:=by
 unfold adv
 split
 ·dsimp only;lia
 ·dsimp only[leap]
  have:(p.i*5+1+p.perturb/32)%(mask+1)<mask+1:=E9 _ (EE mask)
  unfold runEnd
  split <;> lia
theorem pz (mask:Nat)(h:Int):(start mask h).j+(start mask h).more<=mask:=by
 unfold start cH
 dsimp only
 have:bits h%(mask+1)<mask+1:=E9 _ (EE mask)
 unfold runEnd
 split <;> lia
theorem Way.le {oc:Nat->Prop}{mask n:Nat}{p q:Probe}(h:Way oc mask n p q):p.j+p.more<=mask->q.j<=mask:=by
 induction h with
 | here p=>intro;lia
 | step _ _ ih=>intro h;exact ih (zL h)
def nY (mask:Nat):Nat->Probe->Probe
 | 0,p=>p
 | n+1,p=>nY mask n (adv mask p)
theorem pA (mask:Nat):∀(a b:Nat) (p:Probe),nY mask (a+b) p=nY mask b (nY mask a p)
 | 0,b,p=>by rw[DN];rfl
 | a+1,b,p=>by rw[show a+1+b=(a+b)+1 by lia];exact pA mask a b (adv mask p)
theorem uz (oc:Nat->Prop)(mask:Nat):∀(n:Nat) (p:Probe),¬ oc (nY mask n p).j->∃k q,k<=n/\Way oc mask k p q/\¬ oc q.j:=by
 intro n
 induction n with
 | zero=>intro p h;exact ⟨0,p,AY _,.here p,h⟩
 | succ n ih =>
  intro p h
  by_cases hp:oc p.j
  ·obtain ⟨k,q,a,b,c⟩:=ih (adv mask p) h
   exact ⟨k+1,q,by lia,.step hp b,c⟩
  ·exact ⟨0,p,BX _,.here p,hp⟩
theorem xO (mask:Nat):∀(m:Nat) (p:Probe),p.more=m->p.dummy=none->nY mask (m+1) p=cH mask (leap mask p.i p.perturb).1 (leap mask p.i p.perturb).2:=by
 intro m
 induction m with
 | zero =>
  intro p h d
  show adv mask p=_
  unfold adv
  rw[if_neg (by lia)]
  obtain ⟨j,mo,i,pe,dm⟩:=p
  cases d
  rfl
 | succ m ih =>
  intro p h d
  show nY mask (m+1) (adv mask p)=_
  have e:adv mask p={ p with j:=p.j+1,more:=p.more-1 }:=by unfold adv;rw[if_pos (by lia)]
  rw[e]
  exact ih _ (by dsimp only;lia) d
def cq (mask:Nat):Nat->Nat×Nat->Nat×Nat
 | 0,x=>x
 | k+1,x=>cq mask k (leap mask x.1 x.2)
theorem ng (mask:Nat):∀(a b:Nat) (x:Nat×Nat),cq mask (a+b) x=cq mask b (cq mask a x)
 | 0,b,x=>by rw[DN];rfl
 | a+1,b,x=>by rw[show a+1+b=(a+b)+1 by lia];exact ng mask a b _
theorem more_le (mask i:Nat):runEnd mask i-i<=9:=by unfold runEnd;split <;> lia
theorem qI (mask:Nat):∀(k i pe:Nat),∃n,n<=10*k/\nY mask n (cH mask i pe)=cH mask (cq mask k (i,pe)).1 (cq mask k (i,pe)).2:=by
 intro k
 induction k with
 | zero=>intro i pe;exact ⟨0,by lia,rfl⟩
 | succ k ih =>
  intro i pe
  obtain ⟨n,h1,h2⟩:=ih (leap mask i pe).1 (leap mask i pe).2
  refine ⟨(runEnd mask i-i+1)+n,by have:=more_le mask i;lia,?_⟩
  rw[pA,xO mask (runEnd mask i-i) (cH mask i pe) rfl rfl]
  exact h2
theorem gZ (mask:Nat):∀(k i pe:Nat),(cq mask k (i,pe)).2=pe/32 ^ k
 | 0,i,pe=>by simp[cq]
 | k+1,i,pe=>by
  show (cq mask k (leap mask i pe)).2=_
  rw[show leap mask i pe=((leap mask i pe).1,pe/32) from rfl,gZ mask k,Nat.div_div_eq_div_mul,Nat.pow_succ,Nat.mul_comm 32]
theorem pB (mask:Nat):∀(k i pe:Nat),i<=mask->(cq mask k (i,pe)).1<=mask
 | 0,i,pe,h=>h
 | k+1,i,pe,h=>by
  show (cq mask k (leap mask i pe)).1<=mask
  rw[show leap mask i pe=((leap mask i pe).1,pe/32) from rfl]
  exact pB mask k _ _ (DY (E9 _ (EE mask)))
def ste (m i:Nat):Nat:=(i*5+1)%m
def its (m:Nat):Nat->Nat->Nat
 | 0,i=>i
 | n+1,i=>its m n (ste m i)
theorem kg (m:Nat):∀(a b i:Nat),its m (a+b) i=its m b (its m a i)
 | 0,b,i=>by rw[DN];rfl
 | a+1,b,i=>by rw[show a+1+b=(a+b)+1 by lia];exact kg m a b _
def orb (m:Nat):Nat->Nat->List Nat
 | 0,_=>[]
 | n+1,i=>i :: orb m n (ste m i)
theorem nZ (m:Nat):∀(n i j:Nat),j∈orb m n i->∃r,r<n/\its m r i=j
 | 0,i,j,h=>by cases h
 | n+1,i,j,h=>by
  rcases Bs.mp h with h | h
  ·exact ⟨0,by lia,h.symm⟩
  ·obtain ⟨r,a,b⟩:=nZ m n _ _ h
   exact ⟨r+1,by lia,b⟩
def whole (m:Nat):Bool:=((Bw m).all λj=>(orb m m 0).contains j) && (its m m 0 == 0)
theorem uA {m:Nat}(h:whole m=true){i j:Nat}(hi:i<m)(hj:j<m):∃r,r<m/\its m r i=j:=by
 unfold whole at h
 rw[Cv,CD,beq_iff_eq] at h
 obtain ⟨h1,h2⟩:=h
 obtain ⟨a,a1,a2⟩:=nZ m m 0 i (GQ.mp (h1 i (Cg.mpr hi)))
 obtain ⟨b,b1,b2⟩:=nZ m m 0 j (GQ.mp (h1 j (Cg.mpr hj)))
 by_cases hab:a<=b
 ·refine ⟨b-a,by lia,?_⟩
  rw[<- a2, <- kg,show a+(b-a)=b by lia]
  exact b2
 ·refine ⟨m+b-a,by lia,?_⟩
  rw[<- a2, <- kg,show a+(m+b-a)=m+b by lia,kg,h2]
  exact b2
theorem zM:whole 8=true:=by decide +kernel
theorem xP:whole 32=true:=by decide +kernel
theorem vX:whole 128=true:=by decide +kernel
theorem vY:whole 512=true:=by decide +kernel
def Msk (mask:Nat):Prop:=mask=7\/mask=31\/mask=127\/mask=511
theorem Msk.whole {mask:Nat}(h:Msk mask):whole (mask+1)=true:=by
 rcases h with rfl | rfl | rfl | rfl
 ·exact zM
 ·exact xP
 ·exact vX
 ·exact vY
theorem nh (mask:Nat):∀(r i:Nat),cq mask r (i,0)=(its (mask+1) r i,0)
 | 0,i=>rfl
 | r+1,i=>by
  show cq mask r (leap mask i 0)=_
  rw[show leap mask i 0=(ste (mask+1) i,0) from rfl,nh mask r];rfl
theorem xQ (h:Int):bits h<2 ^ 64:=by
 unfold bits
 have h1:=EW h (show (0:Int)<2 ^ 64 by decide)
 have h0:=FC h (show (2 ^ 64:Int)≠0 by decide)
 have:((2 ^ 64:Nat):Int)=2 ^ 64:=by decide
 lia
theorem kR {mask:Nat}(hm:Msk mask){h:Int}{j:Nat}(hj:j<=mask):∃k,k<turns mask/\(cq mask k (bits h%(mask+1),bits h)).1=j:=by
 have p0:(cq mask 13 (bits h%(mask+1),bits h)).2=0:=by
  rw[gZ]
  exact Nat.div_eq_of_lt (Bm (xQ h) (by decide))
 have i0:=pB mask 13 (bits h%(mask+1)) (bits h) (DY (E9 _ (EE mask)))
 obtain ⟨r,r1,r2⟩:=uA hm.whole (i:=(cq mask 13 (bits h%(mask+1),bits h)).1) (j:=j) (by lia) (by lia)
 refine ⟨13+r,by unfold turns;lia,?_⟩
 rw[ng,show cq mask 13 (bits h%(mask+1),bits h)=((cq mask 13 (bits h%(mask+1),bits h)).1,0) from Ho rfl p0,nh]
 exact r2
theorem vZ {mask:Nat}(hm:Msk mask)(oc:Nat->Prop)(h:Int){j:Nat}(hj:j<=mask)(he:¬ oc j):∃n q,n<10*turns mask/\Way oc mask n (start mask h) q/\¬ oc q.j/\q.j<=mask/\q.dummy=none:=by
 obtain ⟨k,k1,k2⟩:=kR hm (h:=h) hj
 obtain ⟨n,n1,n2⟩:=qI mask k (bits h%(mask+1)) (bits h)
 obtain ⟨n',q,a,b,c⟩:=uz oc mask n (start mask h) (by
  show ¬ oc (nY mask n (cH mask _ _)).j
  rw[n2]
  show ¬ oc (cq mask k (bits h%(mask+1),bits h)).1
  rw[k2]
  exact he)
 exact ⟨n',q,by lia,b,c,b.le (pz mask h),b.dummy⟩
theorem ni {mask n:Nat}(oc:Nat->Prop)(f:Nat->Nat)(hf:∀j,j<=mask->oc j->f j<n)(inj:∀i j,i<=mask->j<=mask->oc i->oc j->f i=f j->i=j)(hn:n<=mask):∃j,j<=mask/\¬ oc j:=by
 by_cases q:∃j,j<=mask/\¬ oc j
 ·exact q
 ·exfalso
  have all:∀j,j<=mask->oc j:=λj hj=>by
   by_cases o:oc j
   ·exact o
   ·exact absurd ⟨j,hj,o⟩ q
  have nd:((Bw (mask+1)).map f).Nodup:=by
   unfold List.Nodup
   rw[BW]
   refine EF (λ{a b} ha hb hab e=>hab (inj a b ?_ ?_ (all _ ?_) (all _ ?_) e)) (Ir)
   all_goals (rw[Cg] at ha hb;lia)
  have:=Dq nd (l₂:=Bw n) (λx hx=>by
   obtain ⟨j,hj,e⟩:=Bh.mp hx
   rw[Cg] at hj ⊢
   rw[<- e]
   exact hf j (by lia) (all j (by lia)))
  rw[AN,Dm,Dm] at this
  lia
open PySem PySem.SetTable
structure Tab (t:SetTable)(hs:Array Int):Prop where
 dm:t.dummies = #[]
 rise:nX t.place
 size:t.place.size=hs.size
 le:∀i j:Nat,t.place[i]? = some j->j<=t.mask
 msk:Msk t.mask
 fit:hs.size<=t.mask
 reach:∀(i j:Nat) (h:Int),t.place[i]? = some j->hs[i]? = some h->∃n q,Way (occ t) t.mask n (start t.mask h) q/\q.j=j
theorem eA {α:Type}{xs:Array α}{i:Nat}{a:α}(h:xs[i]? = some a):i<xs.size:=by
 apply Ee;intro q;rw[Eg q] at h;cases h
theorem Tab.fill {t:SetTable}{hs:Array Int}(T:Tab t hs):t.fill=hs.size:=by
 unfold SetTable.fill;rw[T.dm,T.size];rfl
theorem Tab.fits {t:SetTable}{hs:Array Int}(T:Tab t hs):t.fits hs.size=true:=by
 unfold SetTable.fits
 rw[T.fill,T.size]
 simp[T.fit]
theorem Tab.ends {t:SetTable}{hs:Array Int}(T:Tab t hs)(h:Int):∃n q,n<10*turns t.mask/\Way (occ t) t.mask n (start t.mask h) q/\¬ occ t q.j/\q.j<=t.mask/\q.dummy=none:=by
 obtain ⟨j,hj,he⟩:=ni (mask:=t.mask) (n:=hs.size) (occ t) (λj=>below t.place j)
  (λj _ ⟨i,e⟩=>by show below t.place j<hs.size;rw[below_at T.rise e, <- T.size];exact eA e)
  (λi j _ _ ⟨a,ea⟩ ⟨b,eb⟩ e=>by
   have e':below t.place i=below t.place j:=e
   rw[below_at T.rise ea,below_at T.rise eb] at e'
   subst e'
   exact BC (ea.symm.trans eb)) T.fit
 exact vZ T.msk (occ t) h hj he
theorem v3 {t:SetTable}{hs:Array Int}(T:Tab t hs){H:Nat->Int}{h:Int}:∀(n:Nat) (p q:Probe) (fuel:Nat),Way (occ t) t.mask n p q->¬ occ t q.j->n<fuel->p.dummy=none →
  (SetTable.probe.go t H h fuel p=some (.empty q.j none)/\∀k r i,Way (occ t) t.mask k p r->t.place[i]? = some r.j->H i≠h) ∨
  (∃k r i,k<n/\Way (occ t) t.mask k p r/\t.place[i]? = some r.j/\H i=h/\SetTable.probe.go t H h fuel p=some (.candidate r.j i (adv t.mask r))/\Way (occ t) t.mask (n-k-1) (adv t.mask r) q/\(adv t.mask r).dummy=none
   /\ ∀k' r' i',k'<k->Way (occ t) t.mask k' p r'->t.place[i']? = some r'.j->H i'≠h):=by
 intro n
 induction n with
 | zero =>
  intro p q fuel W he hf hd
  cases W
  obtain ⟨fuel,rfl⟩:∃f,fuel=f+1:=⟨fuel-1,by lia⟩
  refine .inl ⟨?_,λk r i Wr er =>?_⟩
  ·unfold SetTable.probe.go
   rw[qH T.dm he]
   dsimp only
   rw[hd]
  ·cases Wr with
   | here=>exact absurd ⟨i,er⟩ he
   | step a _=>exact absurd a he
 | succ n ih =>
  intro p q fuel W he hf hd
  obtain ⟨fuel,rfl⟩:∃f,fuel=f+1:=⟨fuel-1,by lia⟩
  cases W with
  | step a W =>
   obtain ⟨i,ei⟩:=a
   have hd':(adv t.mask p).dummy=none:=by rw[<- hd];unfold adv;split <;> rfl
   by_cases hh:H i=h
   ·refine .inr ⟨0,p,i,by lia,.here p,ei,hh,?_,W,hd',λk' r' i' hk=>by lia⟩
    unfold SetTable.probe.go
    rw[jt T.rise ei]
    dsimp only
    rw[if_pos (by rw[hh];exact beq_self_eq_true h)]
    rfl
   ·have e0:SetTable.probe.go t H h (fuel+1) p=SetTable.probe.go t H h fuel (adv t.mask p):=by
     conv=>lhs;unfold SetTable.probe.go
     rw[jt T.rise ei]
     dsimp only
     rw[if_neg (by rw[beq_iff_eq];exact hh)]
     rfl
    rcases ih (adv t.mask p) q fuel W he (by lia) hd' with ⟨r1,r2⟩ | ⟨k,r,i',k1,w1,e1,h1,g1,w2,d2,no⟩
    ·refine .inl ⟨e0.trans r1,λk r j Wr er =>?_⟩
     cases Wr with
     | here =>
      obtain rfl:i=j:=by
       have x:=below_at T.rise ei
       have y:=below_at T.rise er
       exact x.symm.trans y
      exact hh
     | step _ Wr=>exact r2 _ _ _ Wr er
    ·refine .inr ⟨k+1,r,i',by lia,.step ⟨i,ei⟩ w1,e1,h1,e0.trans g1,by rw[show n+1-(k+1)-1=n-k-1 by lia];exact w2,d2,λk' r' j hk Wr er =>?_⟩
     cases Wr with
     | here =>
      obtain rfl:i=j:=by
       have x:=below_at T.rise ei
       have y:=below_at T.rise er
       exact x.symm.trans y
      exact hh
     | step _ Wr=>exact no _ _ _ (by lia) Wr er
theorem pC {t:SetTable}{hs:Array Int}(T:Tab t hs){H:Nat->Int}{h:Int}{n:Nat}{p q:Probe}(W:Way (occ t) t.mask n p q)(he:¬ occ t q.j)(hn:n<10*turns t.mask)(hd:p.dummy=none) :
  (t.probe H h p=some (.empty q.j none)/\∀k r i,Way (occ t) t.mask k p r->t.place[i]? = some r.j->H i≠h) ∨
  (∃k r i,k<n/\Way (occ t) t.mask k p r/\t.place[i]? = some r.j/\H i=h/\t.probe H h p=some (.candidate r.j i (adv t.mask r))/\Way (occ t) t.mask (n-k-1) (adv t.mask r) q/\(adv t.mask r).dummy=none
   /\ ∀k' r' i',k'<k->Way (occ t) t.mask k' p r'->t.place[i']? = some r'.j->H i'≠h) :=
 v3 T n p q _ W he hn hd
theorem Tab.v5 {t:SetTable}{hs:Array Int}(T:Tab t hs)(j:Nat):t.put j=({ t with place:=insertAt t.place (below t.place j) j },below t.place j):=by
 unfold SetTable.put
 dsimp only
 have:has t.dummies j=false:=by rw[T.dm];simp[has]
 rw[this]
 rfl
theorem Tab.put {t:SetTable}{hs:Array Int}(T:Tab t hs){h:Int}{n:Nat}{q:Probe}(W:Way (occ t) t.mask n (start t.mask h) q)(he:¬ occ t q.j)(hq:q.j<=t.mask)(hf:hs.size+1<=t.mask) :
  Tab { t with place:=insertAt t.place (below t.place q.j) q.j } (insertAt hs (below t.place q.j) h):=by
 have hp:=(de T.rise q.j).1
 have hp':below t.place q.j<=hs.size:=by rw[<- T.size];exact hp
 have up:∀j,occ t j->occ { t with place:=insertAt t.place (below t.place q.j) q.j } j:=by
  rintro j ⟨i,e⟩
  by_cases l:i<below t.place q.j
  ·exact ⟨i,by show (insertAt _ _ _)[i]? = _;rw[bW _ hp,if_pos l];exact e⟩
  ·exact ⟨i+1,by show (insertAt _ _ _)[i+1]? = _;rw[bW _ hp,if_neg (by lia),if_neg (by lia)];exact e⟩
 refine ⟨T.dm,mz T.rise λi e=>he ⟨i,e⟩,?_,λi j e =>?_,T.msk,by rw[b7];exact hf,λi j h' e eh =>?_⟩
 ·show (insertAt _ _ _).size=_
  rw[b7,b7,T.size]
 ·have e':(insertAt t.place (below t.place q.j) q.j)[i]? = some j:=e
  rw[bW _ hp] at e'
  split at e'
  ·exact T.le _ _ e'
  ·split at e'
   ·cases e';exact hq
   ·exact T.le _ _ e'
 ·have e':(insertAt t.place (below t.place q.j) q.j)[i]? = some j:=e
  rw[bW _ hp] at e'
  rw[bW _ hp'] at eh
  by_cases l1:i<below t.place q.j
  ·rw[if_pos l1] at e' eh
   obtain ⟨n',q',w,eq⟩:=T.reach _ _ _ e' eh
   exact ⟨n',q',w.mono up,eq⟩
  ·rw[if_neg l1] at e' eh
   by_cases l2:i=below t.place q.j
   ·rw[if_pos l2] at e' eh
    cases e';cases eh
    exact ⟨n,q,W.mono up,rfl⟩
   ·rw[if_neg l2] at e' eh
    obtain ⟨n',q',w,eq⟩:=T.reach _ _ _ e' eh
    exact ⟨n',q',w.mono up,eq⟩
def ocw (owner:Array (Option Nat))(j:Nat):Prop:=∃k,owner[j]? = some (some k)
theorem Way.trans {oc:Nat->Prop}{mask n m:Nat}{p q r:Probe}(h:Way oc mask n p q)(h2:Way oc mask m q r):∃k,Way oc mask k p r:=by
 induction h with
 | here=>exact ⟨m,h2⟩
 | step a _ ih=>obtain ⟨k,w⟩:=ih h2;exact ⟨k+1,.step a w⟩
theorem n5 (oc:Nat->Prop)(mask:Nat):∀(k:Nat) (p:Probe),k<=p.more->(∀k',k'<k->oc (p.j+k'))->Way oc mask k p { p with j:=p.j+k,more:=p.more-k }
 | 0,p,_,_ =>.here p
 | k+1,p,h,ho=>by
  have e:adv mask p={ p with j:=p.j+1,more:=p.more-1 }:=by unfold adv;rw[if_pos (by lia)]
  refine .step (ho 0 (by lia)) ?_
  rw[e]
  have:=n5 oc mask k { p with j:=p.j+1,more:=p.more-1 } (by dsimp only;lia) λk' hk=>by
   have:=ho (k'+1) (by lia)
   rw[show p.j+(k'+1)=p.j+1+k' by lia] at this
   exact this
  dsimp only at this
  rw[show p.j+1+k=p.j+(k+1) by lia,show p.more-1-k=p.more-(k+1) by lia] at this
  exact this
theorem fS {owner:Array (Option Nat)}{mask j:Nat}(hs:owner.size=mask+1)(hj:j<=mask):(owner.getD j (some 0)).isNone=true↔¬ ocw owner j:=by
 have hl:j<owner.size:=by lia
 have e:owner[j]? = some owner[j]:=BE hl
 rw[show owner.getD j (some 0)=owner[j] by simp[Array.getD,hl]]
 unfold ocw
 rw[e]
 cases owner[j] with
 | none=>simp
 | some k=>simp
theorem nk {mask i:Nat}(h:i<=mask):runEnd mask i<=mask/\i<=runEnd mask i:=by
 unfold runEnd;split <;> lia
theorem uB {mask:Nat}{owner:Array (Option Nat)}(hs:owner.size=mask+1):∀(fuel i pe j:Nat),i<=mask->SetTable.layClean.free mask owner fuel i pe=some j →
  ¬ ocw owner j/\∃n q,Way (ocw owner) mask n (cH mask i pe) q/\q.j=j:=by
 intro fuel
 induction fuel with
 | zero=>intro i pe j hi h;unfold SetTable.layClean.free at h;cases h
 | succ fuel ih =>
  intro i pe j hi h
  unfold SetTable.layClean.free at h
  obtain ⟨r1,r2⟩:=nk hi
  have no:∀k,k<runEnd mask i+1-i->((owner.getD (i+k) (some 0)).isNone=false)->ocw owner (i+k):=λk hk e=>by
   by_cases o:ocw owner (i+k)
   ·exact o
   ·rw[(fS hs (by lia)).mpr o] at e;cases e
  cases hf:(Bw (runEnd mask i+1-i)).find? λk=>(owner.getD (i+k) (some 0)).isNone with
  | some k =>
   rw[hf] at h
   dsimp only at h
   cases h
   rw[List.find?_range_eq_some] at hf
   obtain ⟨f1,f2,f3⟩:=hf
   rw[Cg] at f2
   refine ⟨(fS hs (by lia)).mp f1,k,_,n5 (ocw owner) mask k (cH mask i pe) (by show k<=runEnd mask i-i;lia) λk' hk =>?_,rfl⟩
   refine no k' (by lia) ?_
   have:=f3 k' hk
   simpa using this
  | none =>
   rw[hf] at h
   dsimp only at h
   rw[F8] at hf
   have all:∀k,k<runEnd mask i+1-i->ocw owner (i+k):=λk hk=>no k hk (by simpa using hf k hk)
   obtain ⟨g1,n,q,w,eq⟩:=ih _ _ _ (DY (E9 _ (EE mask))) h
   refine ⟨g1,?_⟩
   have w0:=n5 (ocw owner) mask (runEnd mask i-i) (cH mask i pe) (AY _) λk' hk=>all k' (by lia)
   have w1:Way (ocw owner) mask (n+1) { (cH mask i pe) with j:=(cH mask i pe).j+(runEnd mask i-i),more:=(cH mask i pe).more-(runEnd mask i-i) } q:=by
    refine .step (all (runEnd mask i-i) (by lia)) ?_
    have e:adv mask { (cH mask i pe) with j:=(cH mask i pe).j+(runEnd mask i-i),more:=(cH mask i pe).more-(runEnd mask i-i) }=cH mask (leap mask i pe).1 (leap mask i pe).2:=by
     unfold adv
     rw[if_neg (by show ¬ (runEnd mask i-i-(runEnd mask i-i))>0;lia)]
     rfl
    rw[e]
    exact w
   obtain ⟨k,w2⟩:=w0.trans w1
   exact ⟨k,q,w2,eq⟩
theorem uC {mask:Nat}{owner:Array (Option Nat)}(hs:owner.size=mask+1):∀(fuel i pe k:Nat),i<=mask->k<fuel->¬ ocw owner (cq mask k (i,pe)).1->∃j,SetTable.layClean.free mask owner fuel i pe=some j:=by
 intro fuel
 induction fuel with
 | zero=>intro i pe k _ h;lia
 | succ fuel ih =>
  intro i pe k hi hk he
  unfold SetTable.layClean.free
  obtain ⟨r1,r2⟩:=nk hi
  cases hf:(Bw (runEnd mask i+1-i)).find? λk=>(owner.getD (i+k) (some 0)).isNone with
  | some k=>exact ⟨_,rfl⟩
  | none =>
   dsimp only
   rw[F8] at hf
   cases k with
   | zero =>
    have h0:=hf 0 (by lia)
    have:(owner.getD (i+0) (some 0)).isNone=true:=(fS hs (by lia)).mpr he
    rw[this] at h0
    cases h0
   | succ k=>exact ih _ _ k (DY (E9 _ (EE mask))) (by lia) he
structure Own (mask:Nat)(owner:Array (Option Nat))(hs:List Int):Prop where
 size:owner.size=mask+1
 cov:∀(k:Nat) (h:Int),hs[k]? = some h->∃j n q,owner[j]? = some (some k)/\Way (ocw owner) mask n (start mask h) q/\q.j=j
 bnd:∀j k:Nat,owner[j]? = some (some k)->k<hs.length
 inj:∀i j k:Nat,owner[i]? = some (some k)->owner[j]? = some (some k)->i=j
theorem Own.step {mask:Nat}(hm:Msk mask){owner:Array (Option Nat)}{hs:List Int}(O:Own mask owner hs)(h:Int)(hl:hs.length<=mask) :
  ∃j,SetTable.layClean.free mask owner (turns mask) (bits h%(mask+1)) (bits h)=some j/\Own mask (owner.setIfInBounds j (some hs.length)) (hs++[h]):=by
 obtain ⟨e,he,hne⟩:=ni (mask:=mask) (n:=hs.length) (ocw owner) (λj=>(owner.getD j none).getD 0)
  (λj _ ⟨k,ek⟩=>by
   have:=eA ek
   show (owner.getD j none).getD 0<_
   rw[show owner.getD j none=some k by rw[De,ek];rfl]
   exact O.bnd j k ek)
  (λi j _ _ ⟨a,ea⟩ ⟨b,eb⟩ q=>by
   have q':(owner.getD i none).getD 0=(owner.getD j none).getD 0:=q
   rw[show owner.getD i none=some a by rw[De,ea];rfl,show owner.getD j none=some b by rw[De,eb];rfl] at q'
   have q'':a=b:=q'
   subst q''
   exact O.inj i j a ea eb) hl
 have i0:bits h%(mask+1)<=mask:=DY (E9 _ (EE mask))
 obtain ⟨k,k1,k2⟩:=kR hm (h:=h) he
 obtain ⟨j,hj⟩:=uC O.size (turns mask) _ _ k i0 k1 (by rw[k2];exact hne)
 obtain ⟨hno,n,q,w,eq⟩:=uB O.size _ _ _ _ i0 hj
 have hjm:j<=mask:=by rw[<- eq];exact w.le (pz mask h)
 have hjs:j<owner.size:=by rw[O.size];lia
 have ej:owner[j]? = some none:=by
  rw[BE hjs]
  cases ho:owner[j] with
  | none=>rfl
  | some k=>exact absurd ⟨k,by rw[BE hjs,ho]⟩ hno
 have get:∀i:Nat,(owner.setIfInBounds j (some hs.length))[i]? = if i=j then some (some hs.length) else owner[i]? := λi=>by
  rw[Array.getElem?_setIfInBounds]
  by_cases q:j=i
  ·rw[if_pos q,if_pos q.symm,if_pos hjs]
  ·rw[if_neg q,if_neg (C7 q)]
 have up:∀i,ocw owner i->ocw (owner.setIfInBounds j (some hs.length)) i:=by
  rintro i ⟨k,ek⟩
  refine ⟨k,?_⟩
  rw[get,if_neg (λq=>by rw[q,ej] at ek;cases ek)]
  exact ek
 refine ⟨j,hj,by rw[F6];exact O.size,λk h' eh =>?_,λi k ek =>?_,λi i' k ei ei' =>?_⟩
 ·by_cases lk:k<hs.length
  ·rw[BK lk] at eh
   obtain ⟨j',n',q',a,b,c⟩:=O.cov k h' eh
   refine ⟨j',n',q',?_,b.mono up,c⟩
   rw[get,if_neg (λq=>by rw[q,ej] at a;cases a)]
   exact a
  ·rw[BN (by lia)] at eh
   have:k-hs.length=0:=by
    cases hk:k-hs.length with
    | zero=>rfl
    | succ m=>rw[hk] at eh;cases eh
   rw[this] at eh
   cases eh
   obtain rfl:k=hs.length:=by lia
   exact ⟨j,n,q,by rw[get,if_pos rfl],w.mono up,eq⟩
 ·rw[AR,Ca]
  rw[get] at ek
  split at ek
  ·cases ek;lia
  ·have:=O.bnd _ _ ek;lia
 ·rw[get] at ei ei'
  by_cases q1:i=j
  ·by_cases q2:i'=j
   ·rw[q1,q2]
   ·rw[if_pos q1] at ei;rw[if_neg q2] at ei'
    cases ei
    have:=O.bnd _ _ ei';lia
  ·rw[if_neg q1] at ei
   by_cases q2:i'=j
   ·rw[if_pos q2] at ei'
    cases ei'
    have:=O.bnd _ _ ei;lia
   ·rw[if_neg q2] at ei'
    exact O.inj _ _ _ ei ei'
theorem pE {mask:Nat}(hm:Msk mask):∀(l:List Int) (owner:Array (Option Nat)) (hs:List Int),Own mask owner hs->hs.length+l.length<=mask+1 →
    ∃owner',l.foldl (λacc h=>do
      let (owner,k) ← acc
      let j ← SetTable.layClean.free mask owner (turns mask) (bits h%(mask+1)) (bits h)
      pure (owner.setIfInBounds j (some k),k+1)) (some (owner,hs.length))=some (owner',hs.length+l.length)/\Own mask owner' (hs++l)
  | [],owner,hs,O,_=>⟨owner,rfl,by rw[B7];exact O⟩
  | h :: l,owner,hs,O,hl=>by
    rw[BP] at hl
    obtain ⟨j,hj,O'⟩:=O.step hm h (by lia)
    obtain ⟨owner',e,O''⟩:=pE hm l _ _ O' (by rw[AR,Ca];lia)
    refine ⟨owner',?_,by rw[BV] at O'';exact O''⟩
    rw[IA]
    have:(do
      let (owner,k) ← some (owner,hs.length)
      let j ← SetTable.layClean.free mask owner (turns mask) (bits h%(mask+1)) (bits h)
      pure (owner.setIfInBounds j (some k),k+1):Option (Array (Option Nat)×Nat))=some (owner.setIfInBounds j (some hs.length),(hs++[h]).length):=by
      show (SetTable.layClean.free mask owner (turns mask) (bits h%(mask+1)) (bits h)).bind _=_
      rw[hj,AR]
      rfl
    rw[this,e]
    rw[AR,Ca,BP]
    congr 2
    lia
theorem pG {mask:Nat}(hm:Msk mask)(hs:Array Int)(hl:hs.size<=mask+1):∃owner,SetTable.layClean mask hs=some owner/\Own mask owner hs.toList:=by
  have O0:Own mask (Array.replicate (mask+1) none) []:=by
    refine ⟨by simp,λk h e=>by simp at e,λj k e =>?_,λi j k e =>?_⟩
    · rw[Ga] at e;split at e <;> cases e
    · rw[Ga] at e;split at e <;> cases e
  obtain ⟨owner,e,O⟩:=pE hm hs.toList _ [] O0 (by rw[EV,A5];lia)
  refine ⟨owner,?_,by rw[ER] at O;exact O⟩
  unfold SetTable.layClean
  rw[<- Array.foldl_toList]
  have e':hs.toList.foldl (λacc h=>do
      let (owner,k) ← acc
      let j ← SetTable.layClean.free mask owner (turns mask) (bits h%(mask+1)) (bits h)
      pure (owner.setIfInBounds j (some k),k+1)) (some (Array.replicate (mask+1) none,0))=some (owner,0+hs.toList.length):=e
  rw[e']
  rfl
theorem filterMap_get {α β:Type}{f:α -> Option β}:∀(l:List α),(∀x∈l,(f x).isSome=true)->∀i:Nat,(l.filterMap f)[i]? = l[i]?.bind f
 | [],_,i=>by simp
 | x :: l,h,i=>by
  obtain ⟨y,hy⟩:=F3.mp (h x Be)
  rw[List.filterMap_cons_some hy]
  cases i with
  | zero=>simp[hy]
  | succ i =>
   rw[DB,DB]
   exact filterMap_get l (λz hz=>h z (Br _ hz)) i
theorem xR {mask:Nat}(hm:Msk mask)(finger moves:Nat)(led plain:Bool)(es:Array (Int×AS))(hl:es.size<=mask) :
  ∃t order,SetTable.laid mask finger moves led plain (es.map (·.1))=some (t,order)/\order.toList.Perm (Bw es.size)/\Tab t ((order.filterMap (es[·]?)).map (·.1))/\(order.filterMap (es[·]?)).toList.Perm es.toList/\t.led=led/\t.plain=plain/\t.mask=mask:=by
 obtain ⟨owner,e,O⟩:=pG hm (es.map (·.1)) (by rw[B6];lia)
 refine ⟨_,_,by unfold SetTable.laid;rw[e];rfl,?_⟩
 generalize hlive:((Bw (mask+1)).filterMap λj=>(owner.getD j none).map (j, ·))=live
 have mem:∀j k,(j,k)∈live↔owner[j]? = some (some k):=λj k=>by
  rw[<- hlive,EJ]
  constructor
  ·rintro ⟨a,ha,ea⟩
   rw[De] at ea
   cases ho:owner[a]? with
   | none=>rw[ho] at ea;cases ea
   | some x =>
    rw[ho] at ea
    cases x with
    | none=>cases ea
    | some k'=>cases ea;exact ho
  ·intro ho
   refine ⟨j,?_,?_⟩
   ·rw[Cg, <- O.size];exact eA ho
   ·rw[De,ho];rfl
 have pw:live.Pairwise (λa b=>a.1<b.1):=by
  rw[<- hlive,List.pairwise_filterMap]
  refine Jm (λ{a b} hab x hx y hy =>?_) Eh
  have hx':x.1=a:=by cases ho:owner.getD a none with
   | none=>rw[ho] at hx;cases hx
   | some k=>rw[ho] at hx;cases hx;rfl
  have hy':y.1=b:=by cases ho:owner.getD b none with
   | none=>rw[ho] at hy;cases hy
   | some k=>rw[ho] at hy;cases hy;rfl
  rw[hx',hy'];exact hab
 have nd:(live.map (·.2)).Nodup:=by
  unfold List.Nodup
  rw[BW]
  refine EF (λ{a b} ha hb hab q =>?_) pw
  have:=O.inj a.1 b.1 a.2 ((mem _ _).mp ha) (by rw[q];exact (mem _ _).mp hb)
  lia
 have hlen:(es.map (·.1)).toList.length=es.size:=by rw[A5,B6]
 have perm:(live.map (·.2)).Perm (Bw es.size):=by
  rw[FK nd Ir]
  intro k
  rw[Cg,Bh]
  constructor
  ·rintro ⟨⟨j,k'⟩,hm',rfl⟩
   have:=O.bnd _ _ ((mem _ _).mp hm')
   rw[hlen] at this
   exact this
  ·intro hk
   obtain ⟨j,_,_,ej,_⟩:=O.cov k _ (AQ (by rw[hlen];exact hk))
   exact ⟨(j,k),(mem _ _).mpr ej,rfl⟩
 have all:∀x∈live.map (·.2),(es[x]?).isSome=true:=λx hx=>by
  have:=(perm.mem_iff).mp hx
  rw[Cg] at this
  rw[BE this];rfl
 have tl:(live.map (·.2)).toArray.toList=live.map (·.2):=rfl
 have ll:live.length=es.size:=by have:=perm.length_eq;rw[AN,Dm] at this;exact this
 have fm:((live.map (·.2)).toArray.filterMap (es[·]?)).toList=(live.map (·.2)).filterMap (es[·]?):=by simp
 have fl:((live.map (·.2)).filterMap (es[·]?)).Perm es.toList:=by
  have p1:=perm.filterMap (es[·]?)
  have:(Bw es.size).filterMap (es[·]?)=es.toList:=by
   apply E7
   intro i
   rw[filterMap_get _ (λx hx=>by rw[Cg] at hx;rw[BE hx];rfl)]
   by_cases hi:i<es.size
   ·rw[Ea hi,A9];rfl
   ·rw[Cr (by rw[Dm];lia),Cr (by rw[A5];lia)];rfl
  rw[this] at p1
  exact p1
 refine ⟨perm,?_,by rw[fm];exact fl,rfl,rfl,rfl⟩
 have sz:(((live.map (·.2)).toArray.filterMap (es[·]?)).map (·.1)).size=es.size:=by
  rw[B6, <- A5,fm,fl.length_eq,A5]
 have occ_of:∀j,ocw owner j->occ { mask:=mask,place:=(live.map (·.1)).toArray,dummies := #[],finger:=finger,led:=led,moves:=moves,plain:=plain } j:=by
  rintro j ⟨k,ek⟩
  obtain ⟨i,hi,ei⟩:=Ez ((mem j k).mpr ek)
  refine ⟨i,?_⟩
  show (live.map (·.1)).toArray[i]? = some j
  rw[Cj,A4,AQ hi,ei]
  rfl
 refine ⟨rfl,λi j a b ea eb hij =>?_,?_,λi j ej =>?_,hm,by rw[sz];exact hl,λi j h ej eh =>?_⟩
 ·have ea':(live.map (·.1)).toArray[i]? = some a:=ea
  have eb':(live.map (·.1)).toArray[j]? = some b:=eb
  rw[Cj] at ea' eb'
  have pw':(live.map (·.1)).Pairwise (· < ·):=by rw[BW];exact pw
  obtain ⟨hi,xi⟩:=AW.mp ea'
  obtain ⟨hj,xj⟩:=AW.mp eb'
  rw[<- xi, <- xj]
  exact DQ.mp pw' i j hi hj hij
 ·show (live.map (·.1)).toArray.size=_
  rw[sz,AX,AN,ll]
 ·have ej':(live.map (·.1)).toArray[i]? = some j:=ej
  rw[Cj,A4] at ej'
  cases hx:live[i]? with
  | none=>rw[hx] at ej';cases ej'
  | some x =>
   rw[hx] at ej'
   cases ej'
   have:=eA ((mem x.1 x.2).mp (A8 hx))
   show x.1<=mask
   rw[O.size] at this
   lia
 ·have ej':(live.map (·.1)).toArray[i]? = some j:=ej
  rw[Cj,A4] at ej'
  cases hx:live[i]? with
  | none=>rw[hx] at ej';cases ej'
  | some x =>
   rw[hx] at ej'
   cases ej'
   have ho:=(mem x.1 x.2).mp (A8 hx)
   have hk:=O.bnd _ _ ho
   rw[Hz, <- A9,fm,filterMap_get _ all,A4,hx] at eh
   have eh':(es[x.2]?).map (·.1)=some h:=eh
   obtain ⟨j',n,q,a,b,c⟩:=O.cov x.2 h (by rw[Fn,A4,A9];exact eh')
   obtain rfl:=O.inj _ _ _ ho a
   exact ⟨n,q,b.mono occ_of,c⟩
open PySem PySem.SetTable PyProof.Rows
section
variable  {prog:Bi}{w:BQ}{A:Cc}{E:AS->A1->Prop}{s:A1}
abbrev TK (prog:Bi)(w:BQ):=IsTupleKey (prog:=prog) (w:=w) (intKind prog w)
def cb (prog:Bi)(w:BQ)(ks:List Int):Int:=tupleKeyHash (intKind prog w) ks
def aP (es:Array (Int×AS))(ep:Nat)(t:SetTable):Obj:={ cls :=.type "set",dict:=none,data :=.set es ep t }
def ElT (prog:Bi)(w:BQ)(h:Heap)(e:Int×AS)(ks:List Int):Prop:=∃b,e=(cb prog w ks,.ref b)/\TK prog w h ks b
theorem n6 (d:Nat){v:AS}(h:carriedByValue v=true):ofAClassStatement d v=pure false:=by
 cases v with
 | ref a=>simp[carriedByValue] at h
 | _=>cases d <;> rfl
theorem iT {ks:List Int}{b:Addr}{Q:Bool->A1->Prop}(hk:TK prog w s.heap ks b)(h:Q false s):Bv (BJ prog w) A (ofAClassStatement 8 (.ref b)) Q E s:=by
 have hT:=hk.typeIs
 obtain ⟨o,items,n,ho,_,hd,hi⟩:=hk
 unfold ofAClassStatement
 refine AO (Dr hT ?_)
 dsimp only
 rw[if_pos (by decide)]
 refine AO (AV ?_)
 simp only[CL,Bk,if_false]
 refine AO (DS ho hd ?_)
 dsimp only
 refine AO ?_
 rw[<- HA]
 refine Ft _ (λrest r s'=>r.1=none/\s'=s/\∀v∈rest,carriedByValue v=true) _ ?_ ?_ _ _ ⟨rfl,rfl,hi.byValue⟩
 ·rintro v rest r s' ⟨hr,rfl,hall⟩
  rw[n6 _ (hall v Be)]
  refine AO (AV ?_)
  simp only[Bk,if_false]
  exact AV ⟨rfl,rfl,λu hu'=>hall u (Br _ hu')⟩
 ·rintro ⟨r1,r2⟩ s' ⟨hr,rfl,_⟩
  simp only at hr
  subst hr
  exact AV h
theorem zN {ks:List Int}{b:Addr}{vs:List AS}{Q:Bool->A1->Prop}(hk:TK prog w s.heap ks b)(hv:∀v∈vs,∃ks' b',v = .ref b'/\TK prog w s.heap ks' b')(h:Q false s) :
  Bv (BJ prog w) A (searchCouldBeSeen (.ref b) vs) Q E s:=by
 unfold searchCouldBeSeen
 refine AO ?_
 refine Ft _ (λrest r s'=>r.1=none/\s'=s/\∀v∈rest,∃ks' b',v = .ref b'/\TK prog w s.heap ks' b') _ ?_ ?_ _ _ ⟨rfl,rfl,hv⟩
 ·rintro v rest r s' ⟨hr,rfl,hall⟩
  obtain ⟨ks',b',rfl,hk'⟩:=hall v Be
  have go:∀u∈rest,∃ks' b',u = .ref b'/\TK prog w s'.heap ks' b':=λu hu'=>hall u (Br _ hu')
  dsimp only
  split
  ·exact AV ⟨rfl,rfl,go⟩
  ·refine AO (GZ hk ?_)
   simp only[CL,Bk,if_false]
   refine AO (GZ hk' ?_)
   simp only[CL,Bk,if_false]
   refine AO (iT hk ?_)
   simp only[Bk,if_false]
   refine AO (iT hk' ?_)
   simp only[Bk,if_false]
   exact AV ⟨rfl,rfl,go⟩
 ·rintro ⟨r1,r2⟩ s' ⟨hr,rfl,_⟩
  simp only at hr
  subst hr
  exact AV h
theorem xS {m:Nat}(h:Msk m):(m%2 == 0)=false:=by rcases h with rfl | rfl | rfl | rfl <;> rfl
theorem bz {a:Addr}{es:Array (Int×AS)}{ep:Nat}{t:SetTable}{Q:(Array (Int×AS)×Nat×SetTable)->A1->Prop}(ho:s.heap.get? a=some (aP es ep t))(T:Tab t (es.map (·.1)))(h:Q (es,ep,t) s) :
  Bv (BJ prog w) A (setState a) Q E s:=wpAny_setState_of ho rfl (by have:=T.fits;rwa [B6] at this) h
theorem qJ (es:Array (Int×AS))(i:Nat)(e:Int×AS)(h:es[i]? = some e):(es.map (·.1))[i]? = some e.1:=by rw[Hz,h];rfl
theorem Way.split {oc:Nat->Prop}{mask k:Nat}{p r:Probe}(h:Way oc mask k p r):∀{k':Nat} {r':Probe},Way oc mask k' p r'->k<=k'->Way oc mask (k'-k) r r':=by
 induction h with
 | here p=>intro k' r' h2 _;exact h2
 | @step n p q a _ ih =>
  intro k' r' h2 l
  cases h2 with
  | here=>lia
  | @step m _ _ _ h2=>rw[show m+1-(n+1)=m-n by lia];exact ih h2 (by lia)
theorem qK {a b:Addr}{es:Array (Int×AS)}{ep:Nat}{t:SetTable}{ks:List Int}{Q:SetFound->A1->Prop}(hu:A.units<cLine)(ho:s.heap.get? a=some (aP es ep t))(T:Tab t (es.map (·.1)))
    (els:∀e∈es,∃ks',ElT prog w s.heap e ks') (hk:TK prog w s.heap ks b) {q:Probe} (he:¬ occ t q.j) :
    ∀(fuel n:Nat) (st:Option Probe) (p:Probe),st.getD (start t.mask (cb prog w ks))=p->Way (occ t) t.mask n p q->n<fuel->n<10*turns t.mask->p.dummy=none →
      ((∃(k:Nat) (r:Probe) (i:Nat) (e:Int×AS),Way (occ t) t.mask k p r/\t.place[i]? = some r.j/\es[i]? = some e/\ElT prog w s.heap e ks)->Q (.there none) s) →
      ((¬ ∃(k:Nat) (r:Probe) (i:Nat) (e:Int×AS),Way (occ t) t.mask k p r/\t.place[i]? = some r.j/\es[i]? = some e/\ElT prog w s.heap e ks)->Q (.free q.j false) s) →
      Bv (BJ prog w) A (setSearchFrom a (.ref b) (cb prog w ks) true fuel st) Q E s:=by
  intro fuel
  induction fuel with
  | zero=>intro n st p _ _ h;omega
  | succ fuel ih =>
    intro n st p hst W hn hn2 hd hit mis
    unfold setSearchFrom
    refine AO (bz ho T ?_)
    dsimp only
    rw[show t.gaveWay=false from xS T.msk]
    simp only[Bk,if_false]
    rw[show st.getD (t.probeStart (cb prog w ks))=p from hst]
    rcases pC T (H:=λi=>(es[i]?.map (·.1)).getD 0) (h:=cb prog w ks) W he hn2 hd with ⟨g,no⟩ | ⟨k,r,i,k1,w1,e1,h1,g,w2,d2,no⟩
    · erw [g]
      dsimp only
      refine AV (mis ?_)
      rintro ⟨k,r,i,e,wr,er,ee,eb,rfl,_⟩
      refine no k r i wr er ?_
      show (es[i]?.map (·.1)).getD 0=_
      rw[ee]
      rfl
    · erw [g]
      dsimp only
      have hi:i<es.size:=by have:=eA e1;rw[T.size,B6] at this;exact this
      have ee:es[i]? = some es[i]:=BE hi
      obtain ⟨ks',b',eq,hk'⟩:=els es[i] (Fb hi)
      rw[eq] at ee
      have hh:cb prog w ks'=cb prog w ks:=by
        have h1':(es[i]?.map (·.1)).getD 0=cb prog w ks:=h1
        rw[ee] at h1'
        exact h1'
      have tail:Bv (BJ prog w) A (do
          let equal ← Fg [Bl b'] (eqBool (.ref b') (.ref b))
          let (es',_,t') ← setState a
          if (true && equal)=true then return .there none
          let some same:=t'.sameMemory t.moves t.mask | unsupported "set.changed-during-lookup:is-the-new-block-at-the-old-address"
          let still ← match (if same then t'.slot r.j else .empty) with
            | .live i'=>match es'[i']? with
              | some (_,y')=>do pure (if ← isSame y' (.ref b') then some i' else none)
              | none=>pure none
            | _=>pure none
          match still with
          | none=>rule "set.search.anew";setSearchFrom a (.ref b) (cb prog w ks) true fuel none
          | some i'=>if equal then return .there (some i') else setSearchFrom a (.ref b) (cb prog w ks) true fuel (some (adv t.mask r))) Q E s:=by
        refine AO (B8 (HM hu hk' hk ?_))
        refine AO (bz ho T ?_)
        dsimp only
        by_cases hks:ks'=ks
        · subst hks
          rw[decide_eq_true rfl]
          simp only[Bool.and_self,if_true]
          exact AV (hit ⟨k,r,i,_,w1,e1,ee,b',rfl,hk'⟩)
        · rw[decide_eq_false hks]
          simp only[G9,Bk,if_false]
          rw[show t.sameMemory t.moves t.mask=some true by unfold SetTable.sameMemory;simp]
          dsimp only
          simp only[if_true]
          rw[jt T.rise e1]
          dsimp only
          rw[ee]
          dsimp only
          refine AO (wpAny_isSame_ref_self (AO (AV ?_)))
          simp only[if_true]
          refine ih (n-k-1) _ _ rfl w2 (by omega) (by omega) d2 (λx=>hit ?_) λx=>mis λy=>x ?_
          · obtain ⟨k',r',i',e',a1,a2,a3,a4⟩:=x
            obtain ⟨k'',w''⟩:=w1.trans (.step ⟨i,e1⟩ a1)
            exact ⟨k'',r',i',e',w'',a2,a3,a4⟩
          · obtain ⟨k',r',i',e',a1,a2,a3,a4⟩:=y
            have hx:(es[i']?.map (·.1)).getD 0=cb prog w ks:=by
              obtain ⟨bb,rfl,_⟩:=a4
              rw[a3];rfl
            by_cases lt:k'<k
            · exact absurd hx (no k' r' i' lt a1 a2)
            · have w3:=w1.split a1 (by omega)
              cases hd3:k'-k with
              | zero =>
                rw[hd3] at w3
                cases w3
                obtain rfl:i=i':=(below_at T.rise e1).symm.trans (below_at T.rise a2)
                obtain ⟨bb,rfl,hbb⟩:=a4
                rw[ee] at a3
                injection a3 with a3
                injection a3 with a31 a32
                injection a32 with a32
                subst a32
                exact absurd (hk'.inj hbb) hks
              | succ m =>
                rw[hd3] at w3
                cases w3 with
                | step _ w3=>exact ⟨m,r',i',e',w3,a2,a3,a4⟩
      cases hl:t.led with
      | true =>
        simp only[CL,Bk,if_false]
        rw[ee]
        exact tail
      | false =>
        simp only[Hc,if_true]
        refine AO (zN hk (λv hv =>?_) ?_)
        · obtain ⟨e',he',rfl⟩:=Bh.mp hv
          obtain ⟨ks2,b2,e2,hk2⟩:=els e' (Array.mem_of_mem_filter (BM.mp he'))
          exact ⟨ks2,b2,by rw[e2],hk2⟩
        · simp only[Bk,if_false]
          rw[ee]
          exact tail
end
open PySem PySem.SetTable PyProof.Rows
section
variable  {prog:Bi}{w:BQ}{A:Cc}{E:AS->A1->Prop}{s:A1}
def cR (w:BQ)(h:Heap)(a:Addr)(es:Array (Int×AS)):Prop :=
 ∃ep t,h.get? a=some (aP es ep t)/\Tab t (es.map (·.1))/\es.size*5<t.mask*3/\t.led = !w.params.followText "set-order" /\ t.plain=true
theorem cR.at {h h':Heap}{a:Addr}{es:Array (Int×AS)}(x:cR w h a es)(e:∀o,h.get? a=some o->h'.get? a=some o):cR w h' a es :=
 let ⟨ep,t,ho,r⟩:=x;⟨ep,t,e _ ho,r⟩
theorem pH {m n:Nat}(hm:Msk m)(h1:n*5<m*3)(h2:(n+1)*5≥m*3)(h3:n<300):Msk (sizeAbove (grown (n+1))-1)/\n+1<=sizeAbove (grown (n+1))-1/\(n+1)*5<(sizeAbove (grown (n+1))-1)*3/\sizeAbove (grown (n+1))<=512:=by
 have c:n=4\/n=18\/n=76:=by
  rcases hm with rfl | rfl | rfl | rfl <;> lia
 unfold Msk
 rcases c with rfl | rfl | rfl <;> decide
theorem nr:512<=Ba:=by rw[EB];lia
theorem iU {a:Addr}{es es':Array (Int×AS)}{ep:Nat}{t t':SetTable}{Q:Unit->A1->Prop}(ho:s.heap.get? a=some (aP es ep t))(hz:es'.size<=512)
  (h:∀h',Heap.SameBut a s.heap h'->h'.get? a=some (aP es' (ep+1) t')->Q () { s with heap:=h' }):Bv (BJ prog w) A (storeSet a es' t') Q E s:=by
 refine wpAny_storeSet_of (o:=aP es ep t) ho rfl ?_ (BL hz nr)
 refine h _ (Heap.SameBut.update s.heap a _) ?_
 have:=Ci (Obj.putSet es' t') ho (by rw[putSet_of es' t' (o:=aP es ep t) rfl];rfl)
 rw[putSet_of es' t' (o:=aP es ep t) rfl] at this
 exact this
theorem Tab.tooFull {t:SetTable}{hs:Array Int}(T:Tab t hs):t.tooFull=decide (hs.size*5≥t.mask*3):=by
 unfold SetTable.tooFull;rw[T.fill]
theorem nt {t:SetTable}{es:Array (Int×AS)}(T:Tab t (es.map (·.1))){n:Nat}(hn:es.size=n+1)(h1:n*5<t.mask*3)(h2:(n+1)*5≥t.mask*3)(h3:n<300) :
  ∃t' order,t.relaid (es.map (·.1)) (grown (n+1))=some (t',order)/\order.toList.Perm (Bw es.size)/\Tab t' ((order.filterMap (es[·]?)).map (·.1))/\(order.filterMap (es[·]?)).toList.Perm es.toList/\t'.led=t.led/\t'.plain=t.plain/\(n+1)*5<t'.mask*3:=by
 obtain ⟨k1,k2,k3,k4⟩:=pH T.msk h1 h2 h3
 obtain ⟨t',order,e,pm,T',pe,l,p,m⟩:=xR k1 t.finger (t.movedTo (sizeAbove (grown (n+1))-1)) t.led t.plain es (by lia)
 exact ⟨t',order,e,pm,T',pe,l,p,by rw[m];exact k3⟩
theorem qL {ks:List Int}{b:Addr}{Q:Bool->A1->Prop}(hk:TK prog w s.heap ks b)(h:Q true s):Bv (BJ prog w) A (hashByValue 8 (.ref b)) Q E s:=by
 have hT:=hk.typeIs
 obtain ⟨o,items,n,ho,_,hd,hi⟩:=hk
 unfold hashByValue
 refine AO (FG hT F.slot_tuple_hash.lookup ?_)
 dsimp only
 refine AO (DS ho hd ?_)
 refine AO ?_
 show Bv _ _ (forIn items _ _) _ _ s
 rw[<- HA]
 have hall0:∀v∈items.toList,∃k t,v = .int k t:=by
  clear hd ho
  generalize items.toList=l at hi
  induction hi with
  | nil=>intro v hv;cases hv
  | cons h1 _ ih =>
   intro v hv
   rcases Bs.mp hv with rfl | hv
   ·obtain ⟨t,e⟩:=E5 h1;exact ⟨_,t,e⟩
   ·exact ih v hv
 refine Ft _ (λrest r s'=>r.1=none/\s'=s/\∀v∈rest,∃k t,v=CQ k t) _ ?_ ?_ _ _ ⟨rfl,rfl,hall0⟩
 ·rintro v rest r s' ⟨hr,rfl,hall⟩
  obtain ⟨k,t,rfl⟩:=hall v Be
  rw[show hashByValue 7 (.int k t)=pure true from rfl]
  refine AO (AV ?_)
  simp only[CL,Bk,if_false]
  exact AV ⟨rfl,rfl,λu hu'=>hall u (Br _ hu')⟩
 ·rintro ⟨r1,r2⟩ s' ⟨hr,rfl,_⟩
  simp only at hr
  subst hr
  exact AV h
theorem xT {a b:Addr}{es:Array (Int×AS)}{ks:List Int}{Q:Bool->A1->Prop}(hu:A.units<cLine)(I:cR w s.heap a es)(els:∀e∈es,∃ks',ElT prog w s.heap e ks')(hk:TK prog w s.heap ks b)(hz:es.size<300)
  (hin:(∃e∈es,ElT prog w s.heap e ks)->Q false s)
  (hnew:(¬ ∃e∈es,ElT prog w s.heap e ks)->∀h' es',Heap.SameBut a s.heap h'->cR w h' a es'->es'.toList.Perm ((cb prog w ks,.ref b) :: es.toList)->Q true { s with heap:=h' }) :
  Bv (BJ prog w) A (setAddHashed a (.ref b) (cb prog w ks)) Q E s:=by
 obtain ⟨ep,t,ho,T,rm,hl,hp⟩:=I
 unfold setAddHashed setAddHashedIn
 refine B8 (AO (bz ho T ?_))
 dsimp only
 rw[show byScan (.ref b) es=false from rfl]
 simp only[Bk,if_false]
 obtain ⟨n,q,hn,W,he,hq,hd⟩:=T.ends (cb prog w ks)
 have hn':n<100000:=by
  have:t.mask<=511:=by rcases T.msk with e | e | e | e <;> lia
  unfold turns at hn
  lia
 unfold setSearch
 refine AO (qK hu ho T els hk he 100000 n none _ rfl W hn' hn rfl (λx =>?_) λx =>?_)
 ·obtain ⟨k,r,i,e,_,_,ee,el⟩:=x
  exact AV (hin ⟨e,Array.mem_of_getElem? ee,el⟩)
 ·have nx:¬ ∃e∈es,ElT prog w s.heap e ks:=by
   rintro ⟨e,he',el⟩
   obtain ⟨i,hi,ei⟩:=Array.getElem_of_mem he'
   have ee:es[i]? = some e:=by rw[BE hi,ei]
   have hpl:i<t.place.size:=by rw[T.size,B6];exact hi
   obtain ⟨bb,rfl,hbb⟩:=el
   obtain ⟨k,r,w1,er⟩:=T.reach i _ _ (BE hpl) (qJ es i _ ee)
   exact x ⟨k,r,i,_,w1,by rw[er];exact BE hpl,ee,bb,rfl,hbb⟩
  dsimp only
  refine AO (bz ho T ?_)
  dsimp only
  rw[T.v5]
  dsimp only
  rw[hp]
  simp only[if_true]
  have hz':(es.map (·.1)).size+1<=t.mask:=by
   rw[B6];have:=T.fit;rw[B6] at this
   rcases T.msk with e | e | e | e <;> rw[e] at rm ⊢ <;> lia
  have T':=T.put W he hq hz'
  rw[<- fj es (below t.place q.j) (cb prog w ks,Bl b) (·.1),hp] at T'
  have sz:(insertAt es (below t.place q.j) (cb prog w ks,Bl b)).size=es.size+1:=b7 _ _ _
  refine AO (qL hk ?_)
  simp only[if_true]
  refine AO (iU ho (by rw[sz];lia) λh1 sb1 ho1 =>?_)
  have pm1:=insertAt_perm es (below t.place q.j) (cb prog w ks,Bl b)
  rw[T'.tooFull,B6,sz]
  by_cases full:(es.size+1)*5≥t.mask*3
  ·rw[if_pos (by simpa using full)]
   unfold setRelay
   obtain ⟨t2,order,e2,pm2,T2,pe2,l2,p2,rm2⟩:=nt T' sz (n:=es.size) (by simpa using rm) full hz
   obtain ⟨_,_,_,sa⟩:=pH T.msk rm full hz
   refine AO (AO (bz (s:={ s with heap:=h1 }) ho1 T' ?_))
   dsimp only
   rw[if_neg (Nat.not_lt.mpr (BL sa nr))]
   rw[e2]
   have z2:(order.filterMap ((insertAt es (below t.place q.j) (cb prog w ks,Bl b))[·]?)).size=es.size+1:=by
    rw[<- A5,pe2.length_eq,A5,sz]
   refine AO ?_
   show Bv _ _ (if ((order.filterMap ((insertAt es (below t.place q.j) (cb prog w ks,Bl b))[·]?)).size != (insertAt es (below t.place q.j) (cb prog w ks,Bl b)).size)=true then _ else _) _ _ _
   rw[if_neg (by rw[z2,sz];simp)]
   refine AV ?_
   dsimp only
   refine iU (s:={ s with heap:=h1 }) ho1 (by rw[z2];lia) λh2 sb2 ho2 =>?_
   refine AV (hnew nx h2 _ (sb1.trans sb2) ⟨_,_,ho2,T2,by rw[z2];exact rm2,by rw[l2];exact hl,by rw[p2]⟩ (pe2.trans pm1))
  ·rw[if_neg (by simpa using full)]
   refine AV (hnew nx h1 _ sb1 ⟨_,_,ho1,T',?_,hl,rfl⟩ pm1)
   rw[sz]
   exact Ee full
end
open PySem PySem.SetTable PyProof.Rows
section
variable  {prog:Bi}{w:BQ}{A:Cc}{E:AS->A1->Prop}{s:A1}
def ElI (e:Int×AS)(k:Int):Prop:=∃t,e=(hashInt k,CQ k t)
theorem uD {es:Array (Int×AS)}(els:∀e∈es,∃k,ElI e k):ElemsOf (intKind prog w) es.toList:=by
 intro e he
 obtain ⟨k,t,rfl⟩:=els e (BM.mp he)
 exact ⟨⟨k,Gf _ _ _ _,rfl⟩,rfl⟩
theorem uE {t:SetTable}{es:Array (Int×AS)}(T:Tab t (es.map (·.1)))(h:Int)(x:AS){n:Nat}{q:Probe}(hn:n<10*turns t.mask)(W:Way (occ t) t.mask n (start t.mask h) q)(he:¬ occ t q.j)(hq:q.j<=t.mask)(hz:es.size+1<=t.mask) :
  layNew t es h x=(insertAt es (below t.place q.j) (h,x),{ t with place:=insertAt t.place (below t.place q.j) q.j },false,false):=by
 have hf:t.freeSlot h=some (q.j,false):=by
  unfold SetTable.freeSlot
  rcases pC T (H:=λ_=>h+1) (h:=h) W he hn rfl with ⟨g,_⟩ | ⟨_,_,i,_,_,_,h1,_⟩
  ·rw[show t.probe (λ_=>h+1) h (t.probeStart h)=some (.empty q.j none) from g]
   rfl
  ·have:h+1=h:=h1
   lia
 have T':=T.put W he hq (by rw[B6];exact hz)
 rw[<- fj es (below t.place q.j) (h,x) (·.1)] at T'
 have ft:=T'.fits
 rw[B6] at ft
 unfold layNew
 rw[hf]
 dsimp only
 rw[T.v5]
 dsimp only
 unfold SetTable.orStandIn
 rw[if_pos ft,ft]
 rfl
theorem pI {t:SetTable}{es:Array (Int×AS)}{n:Nat}{t':SetTable}{order:Array Nat}(e:t.relaid (es.map (·.1)) n=some (t',order))(pm:order.toList.Perm (Bw es.size))(T':Tab t' ((order.filterMap (es[·]?)).map (·.1))) :
  relayAll t es n=(order.filterMap (es[·]?),t',false):=by
 unfold relayAll
 rw[e]
 dsimp only
 have c:coversAll order es.size=true:=by unfold coversAll;rw[List.isPerm_iff];exact pm
 have f:=T'.fits
 rw[B6] at f
 rw[c,f]
 rfl
theorem add_int {a:Addr}{es:Array (Int×AS)}{k:Int}{tok:Tok}{Q:Bool->A1->Prop}(I:cR w s.heap a es)(els:∀e∈es,∃k',ElI e k')(hz:es.size<300)
  (hin:(∃e∈es,ElI e k)->Q false s)
  (hnew:(¬ ∃e∈es,ElI e k)->∀h' es',Heap.SameBut a s.heap h'->cR w h' a es'->es'.toList.Perm ((hashInt k,.int k tok) :: es.toList)->Q true { s with heap:=h' }) :
  Bv (BJ prog w) A (setAddHashed a (.int k tok) (hashInt k)) Q E s:=by
 obtain ⟨ep,t,ho,T,rm,hl,hp⟩:=I
 have hel:=uD (prog:=prog) (w:=w) els
 have hb:es.size<scanBound:=by unfold scanBound;lia
 have hf:t.fits es.size=true:=by have:=T.fits;rwa [B6] at this
 unfold setAddHashed setAddHashedIn
 refine B8 (AO (bz ho T ?_))
 dsimp only
 rw[byScan_of (knd:=intKind prog w) rfl hb hel]
 simp only[↓reduceIte]
 unfold setAddByScan
 refine AO ?_
 refine AO (D3 ?_)
 refine AO (wpAny_setScan_of (knd:=intKind prog w) (k:=k) (Gf _ _ _ _) ho rfl hf hel ?_)
 cases hr:List.findIdx? (λe=>(intKind prog w).is k e.2) es.toList with
 | some j =>
  dsimp only
  obtain ⟨hj,hpj,_⟩:=List.findIdx?_eq_some_iff_getElem.mp hr
  refine AV (AV (hin ⟨es.toList[j],BM.mp (Dh hj),?_⟩))
  obtain ⟨k',t',e'⟩:=els es.toList[j] (BM.mp (Dh hj))
  obtain ⟨u,e2⟩:=E5 hpj
  rw[e'] at e2
  cases e2
  exact ⟨_,e'⟩
 | none =>
  dsimp only
  have nx:¬ ∃e∈es,ElI e k:=by
   rintro ⟨e,he,t',rfl⟩
   have:=List.findIdx?_eq_none_iff.mp hr _ (BM.mpr he)
   rw[Gf] at this
   cases this
  have hgw:∀(b:Bool) {s₁:A1} {Q':Unit->A1->Prop},Q' () s₁->Bv (BJ prog w) A (match b with | true=>rule "set.scan.the-table-gave-way" | false=>pure ()) Q' E s₁ :=
   λb s₁ Q' hq=>by cases b <;> first | exact AV hq | exact D3 hq
  obtain ⟨n,q,hn,W,he,hq,hd⟩:=T.ends (hashInt k)
  have hz':es.size+1<=t.mask:=by
   rcases T.msk with e | e | e | e <;> rw[e] at rm ⊢ <;> lia
  rw[uE T (hashInt k) (.int k tok) hn W he hq hz']
  dsimp only
  refine AO (AV (a:=()) ?_)
  have T':=T.put W he hq (by rw[B6];exact hz')
  rw[<- fj es (below t.place q.j) (hashInt k,CQ k tok) (·.1),hp] at T'
  rw[hp]
  simp only[↓reduceIte]
  refine AO ?_
  rw[show hashByValue 8 (.int k tok)=pure true from rfl]
  refine AV ?_
  simp only[↓reduceIte]
  have sz:(insertAt es (below t.place q.j) (hashInt k,CQ k tok)).size=es.size+1:=b7 _ _ _
  refine AO (iU ho (by rw[sz];lia) λh1 sb1 ho1 =>?_)
  have pm1:=insertAt_perm es (below t.place q.j) (hashInt k,CQ k tok)
  rw[T'.tooFull,B6,sz]
  by_cases full:(es.size+1)*5≥t.mask*3
  ·rw[if_pos (by simpa using full)]
   obtain ⟨t2,order,e2,pm2,T2,pe2,l2,p2,rm2⟩:=nt T' sz (n:=es.size) (by simpa using rm) full hz
   rw[pI e2 pm2 T2]
   dsimp only
   have z2:(order.filterMap ((insertAt es (below t.place q.j) (hashInt k,CQ k tok))[·]?)).size=es.size+1:=by
    rw[<- A5,pe2.length_eq,A5,sz]
   refine AO (AV (a:=()) ?_)
   refine AO (iU (s:={ s with heap:=h1 }) ho1 (by rw[z2];lia) λh2 sb2 ho2 =>?_)
   refine AV (AV (hnew nx h2 _ (sb1.trans sb2) ⟨_,_,ho2,T2,by rw[z2];exact rm2,by rw[l2];exact hl,by rw[p2]⟩ (pe2.trans pm1)))
  ·rw[if_neg (by simpa using full)]
   refine AV (AV (hnew nx h1 _ sb1 ⟨_,_,ho1,T',?_,hl,rfl⟩ pm1))
   rw[sz]
   exact Ee full
end
open PySem PySem.SetTable PyProof.Rows PySem.Spec
def TS (h h':Heap):Prop:=∀b o,o.cls = .type "tuple" -> h.get? b=some o->h'.get? b=some o
structure Kd (prog:Bi)(w:BQ)(κ:Type) where
 El:Heap->AS -> κ -> Prop
 hash:κ -> Int
 room:Cc->Prop
 keeps:∀{h h':Heap} {v:AS} {k:κ},El h v k->TS h h'->El h' v k
 inj:∀{h:Heap} {v:AS} {k k':κ},El h v k->El h v k'->k=k'
 add:∀{A:Cc} {E:AS->A1->Prop} {s:A1} {a:Addr} {es:Array (Int×AS)} {v:AS} {k:κ} {Q:Bool->A1->Prop},room A->cR w s.heap a es->(∀e∈es,∃k',e.1=hash k'/\El s.heap e.2 k')->El s.heap v k->es.size<300 →
  ((∃e∈es,El s.heap e.2 k)->∀tk,s.toks<=tk->Q false { s with toks:=tk }) →
  ((¬ ∃e∈es,El s.heap e.2 k)->∀h' es' tk,s.toks<=tk->Heap.SameBut a s.heap h'->cR w h' a es'->es'.toList.Perm ((hash k,v) :: es.toList)->Q true { s with heap:=h',toks:=tk }) →
  Bv (BJ prog w) A (setAdd a v) Q E s
theorem TK.keep {prog:Bi}{w:BQ}{h h':Heap}{ks:List Int}{b:Addr}(x:TK prog w h ks b)(t:TS h h'):TK prog w h' ks b :=
 let ⟨o,items,n,ho,hc,r⟩:=x;⟨o,items,n,t b o hc ho,hc,r⟩
def jX (prog:Bi)(w:BQ):Kd prog w (List Int) where
 El:=λh v ks=>∃b,v = .ref b/\TK prog w h ks b
 hash:=cb prog w
 room:=λA=>A.units<cLine
 keeps:=λ⟨b,e,x⟩ t=>⟨b,e,x.keep t⟩
 inj:=λ⟨b,e,x⟩ ⟨b',e',x'⟩=>by
  rw[e] at e';injection e' with e';subst e';exact x.inj x'
 add:=by
  intro A E s a es v k Q hu I els hv hz hin hnew
  obtain ⟨b,rfl,hk⟩:=hv
  unfold setAdd
  refine B8 (AO (wpAny_pyHash_tuple hu hk ?_))
  have els':∀e∈es,∃ks',ElT prog w s.heap e ks':=λe he=>by
   obtain ⟨k',e1,b',e2,x⟩:=els e he
   exact ⟨k',b',Ho e1 e2,x⟩
  have conv:∀e∈es,(ElT prog w s.heap e k↔∃b,e.2 = .ref b/\TK prog w s.heap k b):=λe he=>by
   constructor
   ·rintro ⟨b',rfl,x⟩;exact ⟨b',rfl,x⟩
   ·rintro ⟨b',e2,x⟩
    obtain ⟨k',e1,b2,e3,x2⟩:=els e he
    rw[e2] at e3;injection e3 with e3;subst e3
    obtain rfl:=x.inj x2
    exact ⟨b',Ho e1 e2,x⟩
  refine xT (s:={ s with toks:=s.toks+(k.length+1) }) hu I els' hk hz (λx=>hin ?_ _ (Dv _ _)) λx h' es' sb I' pm=>hnew ?_ h' es' _ (Dv _ _) sb I' pm
  ·obtain ⟨e,he,x⟩:=x;exact ⟨e,he,(conv e he).mp x⟩
  ·rintro ⟨e,he,y⟩;exact x ⟨e,he,(conv e he).mpr y⟩
def sg (prog:Bi)(w:BQ):Kd prog w Int where
 El:=λ_ v k=>∃t,v = .int k t
 hash:=hashInt
 room:=λ_=>True
 keeps:=λx _=>x
 inj:=λ⟨t,e⟩ ⟨t',e'⟩=>by rw[e] at e';injection e'
 add:=by
  intro A E s a es v k Q _ I els hv hz hin hnew
  obtain ⟨t,rfl⟩:=hv
  unfold setAdd
  refine B8 (AO ((intKind prog w).pyHash (k:=k) (Gf _ _ _ _) ?_))
  have els':∀e∈es,∃k',ElI e k':=λe he=>by
   obtain ⟨k',e1,t',e2⟩:=els e he
   exact ⟨k',t',Ho e1 e2⟩
  have conv:∀e∈es,(ElI e k↔∃t,e.2=CQ k t):=λe he=>by
   constructor
   ·rintro ⟨t',rfl⟩;exact ⟨t',rfl⟩
   ·rintro ⟨t',e2⟩
    obtain ⟨k',e1,t2,e3⟩:=els e he
    rw[e2] at e3;injection e3 with e3 e4;subst e3
    exact ⟨t',Ho e1 e2⟩
  refine add_int (s:={ s with toks:=s.toks+1 }) I els' hz (λx=>hin ?_ _ (Gg _)) λx h' es' sb I' pm=>hnew ?_ h' es' _ (Gg _) sb I' pm
  ·obtain ⟨e,he,x⟩:=x;exact ⟨e,he,(conv e he).mp x⟩
  ·rintro ⟨e,he,y⟩;exact x ⟨e,he,(conv e he).mpr y⟩
section
variable  {prog:Bi}{w:BQ}{κ:Type}(kd:Kd prog w κ)
structure Good (h:Heap)(es:Array (Int×AS))(l:List κ):Prop where
 el:∀e∈es,∃k,k∈l/\e.1=kd.hash k/\kd.El h e.2 k
 all:∀k∈l,∃e∈es,kd.El h e.2 k
 dis:es.toList.Pairwise (λe e'=>∀k,kd.El h e.2 k->¬ kd.El h e'.2 k)
 len:es.size<=l.length
variable  {kd}
theorem Good.keeps {h h':Heap}{es:Array (Int×AS)}{l:List κ}(G:Good kd h es l)(t:TS h h'):Good kd h' es l:=by
 refine ⟨λe he =>?_,λk hk =>?_,?_,G.len⟩
 ·obtain ⟨k,a,b,c⟩:=G.el e he;exact ⟨k,a,b,kd.keeps c t⟩
 ·obtain ⟨e,a,b⟩:=G.all k hk;exact ⟨e,a,kd.keeps b t⟩
 ·refine EF (λ{e e'} he he' x k y z =>?_) G.dis
  obtain ⟨k1,_,_,c1⟩:=G.el e (BM.mp he)
  obtain ⟨k2,_,_,c2⟩:=G.el e' (BM.mp he')
  obtain rfl:=kd.inj y (kd.keeps c1 t)
  obtain rfl:=kd.inj z (kd.keeps c2 t)
  exact x _ c1 c2
theorem Good.nil (h:Heap):Good kd h #[] []:=⟨λe he=>(by simp at he),λk hk=>(by cases hk),(by simp),AY _⟩
theorem Good.same {h:Heap}{es:Array (Int×AS)}{l:List κ}(G:Good kd h es l){k:κ}(x:∃e∈es,kd.El h e.2 k):Good kd h es (l++[k]):=by
 refine ⟨λe he =>?_,λk' hk =>?_,G.dis,by rw[AR];have:=G.len;lia⟩
 ·obtain ⟨k,a,b⟩:=G.el e he;exact ⟨k,BD _ a,b⟩
 ·rcases A7.mp hk with hk | hk
  ·exact G.all k' hk
  ·rw[AZ] at hk;subst hk;exact x
theorem Good.more {h:Heap}{es es':Array (Int×AS)}{l:List κ}(G:Good kd h es l){k:κ}{v:AS}(hv:kd.El h v k)(x:¬ ∃e∈es,kd.El h e.2 k)(pm:es'.toList.Perm ((kd.hash k,v) :: es.toList)):Good kd h es' (l++[k]):=by
 have mem:∀e,e∈es'↔e=(kd.hash k,v)\/e∈es:=λe=>by
  rw[<- BM,pm.mem_iff,Bs,BM]
 refine ⟨λe he =>?_,λk' hk =>?_,?_,?_⟩
 ·rcases (mem e).mp he with rfl | he
  ·exact ⟨k,Bn _ (AZ.mpr rfl),rfl,hv⟩
  ·obtain ⟨k,a,b⟩:=G.el e he;exact ⟨k,BD _ a,b⟩
 ·rcases A7.mp hk with hk | hk
  ·obtain ⟨e,a,b⟩:=G.all k' hk;exact ⟨e,(mem e).mpr (.inr a),b⟩
  ·rw[AZ] at hk;subst hk;exact ⟨_,(mem _).mpr (.inl rfl),hv⟩
 ·rw[pm.pairwise_iff (λ{a b} z k y1 y2=>z k y2 y1)]
  refine List.Pairwise.cons (λe he k' y1 y2 =>?_) G.dis
  obtain rfl:=kd.inj y1 hv
  exact x ⟨e,BM.mp he,y2⟩
 ·have:=pm.length_eq
  rw[BP,A5,A5] at this
  rw[AR,Ca]
  have:=G.len
  lia
end
section
variable  {prog:Bi}{w:BQ}{A:Cc}{R:Result->A1->Prop}{I:Addr}{fp:List Addr}{G:Array GenState->Array GenState->Prop}{n:Nat}{P:Nat->AS->Prop}{St:Nat->A1->Prop}{κ:Type}{kd:Kd prog w κ}
theorem pJ (W:WalksS prog w A.in1 I fp [I] G n P St)(hrm:kd.room A.in1)(hI:∀i s,St i s->∃o,s.heap.get? I=some o/\o.cls ≠ .type "tuple")(S:Addr)(hSf:S∉fp)(hIf:I∈fp)(ks:List κ)(hn:n=ks.length)(hb:n<300) :
  ∀(k i:Nat) (s:A1) (es:Array (Int×AS)),n-i=k->i<=n->St i s->(∀j v,P j v->∃q,ks[j]? = some q/\kd.El s.heap v q) →
   cR w s.heap S es->Good kd s.heap es (ks.take i) →
   (∀s' es',Moved [S,I] G s s'->cR w s'.heap S es'->Good kd s'.heap es' ks->R (.ok (.ret .none)) s') →
   Ff (BJ prog w) A (.builtin "set.update.loop" ⟨[.ref S,.ref I],[]⟩) R s:=by
 have hSI:S≠I:=λe=>hSf (e ▸ hIf)
 have ts:∀i s s',St i s->Moved [I] G s s'->TS s.heap s'.heap:=λi s s' hst hm b o hc e=>by
  refine hm.heap b o (λhb =>?_) e
  rw[AZ] at hb
  obtain ⟨o',e',c'⟩:=hI i s hst
  rw[hb,e'] at e;cases e;exact c' hc
 intro k
 induction k with
 | zero =>
  intro i s es hk hi hst hv hS hG hR
  have hin:i=n:=by omega
  subst hin
  refine BR Gi ?_
  rw[BH Eb _]
  show Bv _ A.in1 (pyNext (.ref I) >>= _) _ _ s
  refine AO (W.done s _ _ hst λs' hm =>?_)
  show Bv _ A.in1 (ret DM) _ _ s'
  rw[Bb (by omega)] at hG
  exact AV (hR s' es (hm.mono λb hb=>by rw[AZ] at hb;simp[hb]) (hS.at λo e=>hm.heap S o (by rw[AZ];exact hSI) e) (hG.keeps (ts _ _ _ hst hm)))
 | succ k ih =>
  intro i s es hk hi hst hv hS hG hR
  have hlt:i<n:=by omega
  refine BR Gi ?_
  rw[BH Eb _]
  show Bv _ A.in1 (pyNext (.ref I) >>= _) _ _ s
  refine AO (W.item i s _ _ hlt hst λv s' hP hst' hm =>?_)
  have t0:=ts _ _ _ hst hm
  obtain ⟨q,eq,hq⟩:=hv i v hP
  have hS':cR w s'.heap S es:=hS.at λo e=>hm.heap S o (by rw[AZ];exact hSI) e
  have hG':=hG.keeps t0
  have tk:ks.take (i+1)=ks.take i++[q]:=by rw[IV,eq];rfl
  show Bv _ A.in1 (Fg [v] (setAdd S v) >>= _) _ _ s'
  have hm2:Moved [S,I] G s s':=hm.mono λb hb=>by rw[AZ] at hb;simp[hb]
  refine AO (B8 (kd.add hrm hS' (λe he =>?_) (kd.keeps hq t0) ?_ (λx tk' htk =>?_) λx h' es' tk' htk sb I' pm =>?_))
  ·obtain ⟨k',_,a,b⟩:=hG'.el e he;exact ⟨k',a,b⟩
  ·have:=hG'.len;rw[B4] at this;omega
  ·refine AV ⟨Ct Eb _,ih (i+1) _ es (by omega) hlt (W.frame _ s' _ _ hst' htk λb _ o e=>e) (λj v' p =>?_) hS' (by rw[tk];exact hG'.same x) λs'' es'' hm'' a b =>?_⟩
   ·obtain ⟨q',a,b⟩:=hv j v' p;exact ⟨q',a,kd.keeps b t0⟩
   ·exact hR s'' es'' (Jj W.gtrans (hm2.then_heap htk λb o _ e=>e) hm'') a b
  ·have t1:TS s'.heap h':=λb o hc e=>by
    rw[sb.2 b (λhb=>by
     obtain ⟨ep,t,ho,_⟩:=hS'
     rw[hb,ho] at e;cases e;simp[aP] at hc)]
    exact e
   refine AV ⟨Ct Eb _,ih (i+1) _ es' (by omega) hlt (W.frame _ s' _ _ hst' htk λb hb o e =>?_) (λj v' p =>?_) I' (by rw[tk];exact (hG'.more (kd.keeps hq t0) x pm).keeps t1) λs'' es'' hm'' a b =>?_⟩
   ·rw[sb.2 b (λh:b=S=>hSf (h ▸ hb))];exact e
   ·obtain ⟨q',a,b⟩:=hv j v' p;exact ⟨q',a,kd.keeps (kd.keeps b t0) t1⟩
   ·refine hR s'' es'' (Jj W.gtrans (hm2.then_heap htk λb o hb e =>?_) hm'') a b
    rw[sb.2 b (λh:b=S=>hb (by rw[h];exact Be))];exact e
end
section
variable  {prog:Bi}{w:BQ}{A:Cc}{E:AS->A1->Prop}{s:A1}
theorem sj (a:AS){Q₁:AS->A1->Prop}
    (h:Q₁ (.ref s.heap.objs.size) { s with heap:=s.heap.push (aP #[] 0 (.fresh 0 0 (!w.params.followText "set-order"))) }) :
    Ff (BJ prog w) A (.call (.builtin "set.__new__") ⟨[.type "set",a],[]⟩) (wants Q₁ E) s:=by
  refine G1 ?_
  show Bv _ A.in1 (do checkBuiltinCall "set.__new__" ⟨[.type "set",a],[]⟩;again (.builtin "set.__new__" ⟨[.type "set",a],[]⟩)) _ _ s
  refine AO (Hk (PySem.F.newCall_set_1 a) (AV ⟨Ct IC _,BR F.entry_set_new ?_⟩))
  rw[BH IC _]
  unfold Builtin.«set.__new__» Builtin.Frozenset.newClass
  have hsub:=sub_set_self
  obtain ⟨hp,g,d,tk,os⟩:=s
  dsimp only
  wp_walk
  refine Gw (AV ?_)
  dsimp only
  simp only[newObj]
  refine AO (wpAny_alloc (AV ?_))
  exact AV h
theorem uF (led:Bool):Tab (.fresh 0 0 led) #[]:=by
 refine ⟨rfl,λi j a b e =>?_,rfl,λi j e =>?_,.inl rfl,BX _,λi j h e =>?_⟩ <;> (simp[SetTable.fresh] at e)
theorem kS {h:Heap}{a:Addr}(ho:h.get? a=some (aP #[] 0 (.fresh 0 0 (!w.params.followText "set-order")))):cR w h a #[] :=
 ⟨0,_,ho,(by rw[Array.map_empty];exact uF _),(by show 0*5<7*3;decide),rfl,rfl⟩
theorem sub_tuple_set:isSubtype (.type "tuple") (.type "set")=pure false:=by rw[F2];kernel_rfl
theorem sub_tuple_frozenset:isSubtype (.type "tuple") (.type "frozenset")=pure false:=by rw[F2];kernel_rfl
end
open PySem PySem.SetTable PyProof.Rows PySem.Spec
section
variable  {prog:Bi}{w:BQ}{A:Cc}{E:AS->A1->Prop}{s:A1}
set_option maxHeartbeats 3200000 in
theorem fT {κ:Type}{kd:Kd prog w κ}{l:Addr}{items:Array AS}{ks:List κ}{Q:AS->A1->Prop}
  (hh:A.handled=none) (hrm:kd.room A.in1.in1.in1) (hl:s.heap.IsTuple l items) (hz:items.size=ks.length) (hi:∀(i:Nat) v,items[i]? = some v->∃q,ks[i]? = some q/\kd.El s.heap v q) (hb:items.size<300)
  (h:∀(h':Heap) (es:Array (Int×AS)) (tk:Nat),s.toks<=tk->cR w h' s.heap.objs.size es->Good kd h' es ks →
   (∀b o,s.heap.get? b=some o->h'.get? b=some o)->Q (.ref s.heap.objs.size) { s with heap:=h',toks:=tk }) :
  Bv (BJ prog w) A (call (.type "set") [.ref l]) Q E s:=by
 obtain ⟨c,tl,hmro⟩:=CM.mro
 have hmade:=CM.made
 have hsub:=CM.sub
 refine Ia (G1 ?_)
 show Bv _ _ (callAny (.type "set") _) _ _ _
 refine AV ⟨FO _ (by decide +kernel),BR HW ?_⟩
 rw[HB (G2 "set" [.ref l] []) rfl]
 have h1:=CM.notType
 have h2:=CM.canCreate
 have hct:=GA (.ref l)
 repeat (any_goals (first | assumption | wp_step))
 have gd:(s.heap.push (aP #[] 0 (.fresh 0 0 (!w.params.followText "set-order")))).objs.size=s.heap.objs.size+1:=DC _ _
 refine EH (sj (w:=w) (.ref l) (E:=E) (Q₁:=λobj s₁=>obj = .ref s.heap.objs.size/\s₁={ s with heap:=s.heap.push (aP #[] 0 (.fresh 0 0 (!w.params.followText "set-order"))) }) ⟨rfl,rfl⟩) λr s₁ hr =>?_
 cases r with
 | error e=>exact hr
 | ok fl =>
  cases fl with
  | ret obj =>
   obtain ⟨rfl,rfl⟩:=hr
   generalize hled:(!w.params.followText "set-order")=led at gd ⊢
   have hS:(s.heap.push (aP #[] 0 (.fresh 0 0 led))).get? s.heap.objs.size=some (aP #[] 0 (.fresh 0 0 led)):=Bd _ rfl
   have hT:Shared.TypeIs { s with heap:=s.heap.push (aP #[] 0 (.fresh 0 0 led)) } (.ref s.heap.objs.size) "set" :=⟨_,hS,rfl⟩
   have hli:=CM.init.lookup
   have hbi:=CM.init.bind (.ref s.heap.objs.size)
   repeat (any_goals (first | assumption | wp_step))
   refine EH (Fv (R:=wants (λr s₂=>r = .none/\∃h' es tk,s₂={ s with heap:=h',toks:=tk }/\s.toks<=tk ∧
     cR w h' s.heap.objs.size es/\Good kd h' es ks ∧
     (∀b o,s.heap.get? b=some o->h'.get? b=some o)) E) CM.init.plain Iu (check_set_init_1 hT ?_)) λr₂ s₂ hr₂ =>?_
   ·obtain ⟨ol,hol,hcl,nl,hdl⟩:=id hl
    obtain ⟨ocls,odict,odata,oslots⟩:=ol
    simp only at hcl hdl
    subst hcl;subst hdl
    have hol':(s.heap.push (aP #[] 0 (.fresh 0 0 led))).get? l=some { cls :=.type "tuple",dict:=odict,data :=.seq items nl,slots:=oslots }:=AU _ hol
    have hsls:=sub_tuple_set
    have hslf:=sub_tuple_frozenset
    have hne:(DH "tuple" == DH "dict")=false:=by decide
    have hl1:(s.heap.push (aP #[] 0 (.fresh 0 0 led))).IsTuple l items:=⟨_,hol',rfl,nl,rfl⟩
    unfold Builtin.«set.__init__» noKeywords Builtin.Frozenset.updateFrom
    generalize hPI:pyIter=PI
    wp_walk
    subst hPI
    refine FP hl1 ?_
    refine AO (Es ?_)
    have hlS:l<s.heap.objs.size:=Bc hol
    have hh3:A.in1.in1.in1.handled=none:=by simp[hh]
    have hneI:l≠(s.heap.push (aP #[] 0 (.fresh 0 0 led))).objs.size:=by
     rw[gd];exact Bz (Cy hlS)
    have hSf:s.heap.objs.size∉[(s.heap.push (aP #[] 0 (.fresh 0 0 led))).objs.size,l]:=by
     rw[gd];simp only[Bs,AZ,Dw,or_false,not_or]
     exact ⟨Bz (CZ _),D5 hlS⟩
    refine pJ (kd:=kd) ((Jk hh3 _ l hneI items).toS) hrm (λi s' st =>?hI) s.heap.objs.size hSf Be ks hz hb (items.size-0) 0 _ #[] (by lia) (BX _)
     ⟨⟨_,Bd _ rfl,rfl,rfl⟩,(hl1.push _)⟩ ?hv (by subst hled;exact kS (AU _ hS)) (Good.nil _) ?hR
    case hI =>
     obtain ⟨o,ho,hc,_⟩:=st.1
     exact ⟨o,ho,by rw[hc];decide⟩
    case hv =>
     intro j v hv
     obtain ⟨q,e,x⟩:=hi j v hv
     exact ⟨q,e,kd.keeps x λb o _ e=>AU _ (AU _ e)⟩
    case hR =>
     intro s' es' hm hS' hG'
     obtain ⟨h',g',d',tk',os'⟩:=s'
     have eg:g'=s.gens:=hm.gens
     have ed:d'=s.drawn:=hm.drawn
     have eo:os'=s.os:=hm.os
     subst eg;subst ed;subst eo
     show Bv _ _ _ _ _ _
     refine AV ?_
     show Bv _ _ (ret DM) _ _ _
     refine AV ⟨rfl,h',es',tk',rfl,hm.toks,hS',hG',λb o e =>?_⟩
     have hbb:=Bc e
     have hb1:b≠s.heap.objs.size:=Bz hbb
     have hb2:b≠(s.heap.push (aP #[] 0 (.fresh 0 0 led))).objs.size:=by
      rw[gd];exact Bz (Cy hbb)
     exact hm.heap b o (by simp only[Bs,AZ,Dw,or_false,not_or];exact ⟨hb1,hb2⟩) (AU _ (AU _ e))
   ·cases r₂ with
    | error e=>exact hr₂
    | ok fl₂ =>
     cases fl₂ with
     | ret r =>
      obtain ⟨rfl,h',es,tk,rfl,htk,hS',hG',hk'⟩:=hr₂
      repeat (any_goals (first | assumption | wp_step))
      exact h _ _ _ htk hS' hG' hk'
     | _=>exact hr₂.elim
  | _=>exact hr.elim
end
open PySem PySem.SetTable PyProof.Rows PySem.Spec
section
variable  {prog:Bi}{w:BQ}{A:Cc}{E:AS->A1->Prop}{s:A1}
set_option maxHeartbeats 3200000 in
theorem call_set_list {κ:Type}{kd:Kd prog w κ}{l:Addr}{items:Array AS}{ks:List κ}{Q:AS->A1->Prop}
  (hh:A.handled=none) (hrm:kd.room A.in1.in1.in1) (hl:s.heap.IsList l items) (hz:items.size=ks.length) (hi:∀(i:Nat) v,items[i]? = some v->∃q,ks[i]? = some q/\kd.El s.heap v q) (hb:items.size<300)
  (h:∀(h':Heap) (es:Array (Int×AS)) (tk:Nat),s.toks<=tk->cR w h' s.heap.objs.size es->Good kd h' es ks →
   (∀b o,s.heap.get? b=some o->h'.get? b=some o)->Q (.ref s.heap.objs.size) { s with heap:=h',toks:=tk }) :
  Bv (BJ prog w) A (call (.type "set") [.ref l]) Q E s:=by
 obtain ⟨c,tl,hmro⟩:=CM.mro
 have hmade:=CM.made
 have hsub:=CM.sub
 refine Ia (G1 ?_)
 show Bv _ _ (callAny (.type "set") _) _ _ _
 refine AV ⟨FO _ (by decide +kernel),BR HW ?_⟩
 rw[HB (G2 "set" [.ref l] []) rfl]
 have h1:=CM.notType
 have h2:=CM.canCreate
 have hct:=GA (.ref l)
 repeat (any_goals (first | assumption | wp_step))
 have gd:(s.heap.push (aP #[] 0 (.fresh 0 0 (!w.params.followText "set-order")))).objs.size=s.heap.objs.size+1:=DC _ _
 refine EH (sj (w:=w) (.ref l) (E:=E) (Q₁:=λobj s₁=>obj = .ref s.heap.objs.size/\s₁={ s with heap:=s.heap.push (aP #[] 0 (.fresh 0 0 (!w.params.followText "set-order"))) }) ⟨rfl,rfl⟩) λr s₁ hr =>?_
 cases r with
 | error e=>exact hr
 | ok fl =>
  cases fl with
  | ret obj =>
   obtain ⟨rfl,rfl⟩:=hr
   generalize hled:(!w.params.followText "set-order")=led at gd ⊢
   have hS:(s.heap.push (aP #[] 0 (.fresh 0 0 led))).get? s.heap.objs.size=some (aP #[] 0 (.fresh 0 0 led)):=Bd _ rfl
   have hT:Shared.TypeIs { s with heap:=s.heap.push (aP #[] 0 (.fresh 0 0 led)) } (.ref s.heap.objs.size) "set" :=⟨_,hS,rfl⟩
   have hli:=CM.init.lookup
   have hbi:=CM.init.bind (.ref s.heap.objs.size)
   repeat (any_goals (first | assumption | wp_step))
   refine EH (Fv (R:=wants (λr s₂=>r = .none/\∃h' es tk,s₂={ s with heap:=h',toks:=tk }/\s.toks<=tk ∧
     cR w h' s.heap.objs.size es/\Good kd h' es ks ∧
     (∀b o,s.heap.get? b=some o->h'.get? b=some o)) E) CM.init.plain Iu (check_set_init_1 hT ?_)) λr₂ s₂ hr₂ =>?_
   ·obtain ⟨ol,hol,hcl,nl,hdl⟩:=id hl
    obtain ⟨ocls,odict,odata,oslots⟩:=ol
    simp only at hcl hdl
    subst hcl;subst hdl
    have hol':(s.heap.push (aP #[] 0 (.fresh 0 0 led))).get? l=some { cls :=.type "list",dict:=odict,data :=.seq items nl,slots:=oslots }:=AU _ hol
    have hsls:=PySem.F.sub_list_set
    have hslf:=PySem.F.sub_list_frozenset
    have hne:(DH "list" == DH "dict")=false:=by decide
    have hl1:(s.heap.push (aP #[] 0 (.fresh 0 0 led))).IsList l items:=⟨_,hol',rfl,nl,rfl⟩
    unfold Builtin.«set.__init__» noKeywords Builtin.Frozenset.updateFrom
    generalize hPI:pyIter=PI
    wp_walk
    subst hPI
    refine Fd hl1 ?_
    refine AO (Es ?_)
    have hlS:l<s.heap.objs.size:=Bc hol
    have hh3:A.in1.in1.in1.handled=none:=by simp[hh]
    have hneI:l≠(s.heap.push (aP #[] 0 (.fresh 0 0 led))).objs.size:=by
     rw[gd];exact Bz (Cy hlS)
    have hSf:s.heap.objs.size∉[(s.heap.push (aP #[] 0 (.fresh 0 0 led))).objs.size,l]:=by
     rw[gd];simp only[Bs,AZ,Dw,or_false,not_or]
     exact ⟨Bz (CZ _),D5 hlS⟩
    refine pJ (kd:=kd) ((Ja hh3 _ l hneI items).toS) hrm (λi s' st =>?hI) s.heap.objs.size hSf Be ks hz hb (items.size-0) 0 _ #[] (by lia) (BX _)
     ⟨⟨_,Bd _ rfl,rfl,rfl⟩,(hl1.push _)⟩ ?hv (by subst hled;exact kS (AU _ hS)) (Good.nil _) ?hR
    case hI =>
     obtain ⟨o,ho,hc,_⟩:=st.1
     exact ⟨o,ho,by rw[hc];decide⟩
    case hv =>
     intro j v hv
     obtain ⟨q,e,x⟩:=hi j v hv
     exact ⟨q,e,kd.keeps x λb o _ e=>AU _ (AU _ e)⟩
    case hR =>
     intro s' es' hm hS' hG'
     obtain ⟨h',g',d',tk',os'⟩:=s'
     have eg:g'=s.gens:=hm.gens
     have ed:d'=s.drawn:=hm.drawn
     have eo:os'=s.os:=hm.os
     subst eg;subst ed;subst eo
     show Bv _ _ _ _ _ _
     refine AV ?_
     show Bv _ _ (ret DM) _ _ _
     refine AV ⟨rfl,h',es',tk',rfl,hm.toks,hS',hG',λb o e =>?_⟩
     have hbb:=Bc e
     have hb1:b≠s.heap.objs.size:=Bz hbb
     have hb2:b≠(s.heap.push (aP #[] 0 (.fresh 0 0 led))).objs.size:=by
      rw[gd];exact Bz (Cy hbb)
     exact hm.heap b o (by simp only[Bs,AZ,Dw,or_false,not_or];exact ⟨hb1,hb2⟩) (AU _ (AU _ e))
   ·cases r₂ with
    | error e=>exact hr₂
    | ok fl₂ =>
     cases fl₂ with
     | ret r =>
      obtain ⟨rfl,h',es,tk,rfl,htk,hS',hG',hk'⟩:=hr₂
      repeat (any_goals (first | assumption | wp_step))
      exact h _ _ _ htk hS' hG' hk'
     | _=>exact hr₂.elim
  | _=>exact hr.elim
end
open PySem PySem.SetTable PyProof.Rows
namespace F9
theorem fq:Slot "set_iterator" "__next__" "set_iterator.__next__" :=
 .of (owner := "set_iterator") (n := "__next__") (by rw[typeLookup_type,builtinLookup_eq_fast];kernel_rfl) (by decide +kernel) (by decide +kernel) (by decide +kernel)
  (by first | exact .inl (by decide +kernel) | exact .inr (by decide +kernel)) (by rw[F2];kernel_rfl)
theorem mB:entryFor table "set_iterator.__next__" = some Builtin.«set_iterator.__next__» := entryFor_of_tree (by kernel_rfl)
theorem oe (a:AS):argsOk "set_iterator.__next__" ⟨[a],[]⟩:=by
 unfold argsOk;kernel_rfl
theorem kT:entryFor table "set.__iter__" = some Builtin.«frozenset.__iter__» :=
 entryFor_alias (id' := "frozenset.__iter__") (by kernel_rfl) rfl (by decide +kernel) (by kernel_rfl)
end F9
theorem dg {α:Type}:∀(l:List α) (i:Nat) (x:α),l[i]? = some x->(x :: l.eraseIdx i).Perm l
 | [],i,x,h=>by simp at h
 | y :: l,0,x,h=>by simp at h;subst h;exact Eo _
 | y :: l,i+1,x,h=>by
  rw[DB] at h
  rw[EN]
  exact (List.Perm.swap y x _).trans (List.Perm.cons y (dg l i x h))
theorem sk {α:Type}(next:Nat->Nat):∀(fuel k:Nat) (left:List α) (out:Array α),left.length=fuel->(pickOrder.go next fuel k left out).toList.Perm (out.toList++left)
 | 0,k,left,out,h=>by
  have:left=[]:=ET.mp h
  subst this
  unfold pickOrder.go
  rw[B7]
 | fuel+1,k,left,out,h=>by
  unfold pickOrder.go
  have hl:next k%left.length<left.length:=E9 _ (by lia)
  have e:=AQ hl
  rw[e]
  dsimp only
  have ih:=sk next fuel (k+1) (left.eraseIdx (next k%left.length)) (out.push left[next k%left.length]) (by rw[G7,if_pos hl];lia)
  refine ih.trans ?_
  rw[Dl,BV]
  exact C0 _ (dg _ _ _ e)
theorem uG {α:Type}(next:Nat->Nat)(xs:Array α):(pickOrder next xs).toList.Perm xs.toList:=by
 unfold pickOrder
 have:=sk next xs.size 0 xs.toList #[] (by simp)
 simpa using this
section
variable  {prog:Bi}{w:BQ}{A:Cc}{E:AS->A1->Prop}{s:A1}
def walkVals (w:BQ)(a:Addr)(es:Array (Int×AS))(ep:Nat):List AS :=
 if w.params.followText "set-order" = true then (pickOrder (w.params.setOrder a ep) es).toList.map (·.2) else es.toList.map (·.2)
theorem nA (w:BQ)(a:Addr)(es:Array (Int×AS))(ep:Nat):(walkVals w a es ep).Perm (es.toList.map (·.2)):=by
 unfold walkVals
 split
 ·exact (uG _ _).map _
 ·exact Eo _
theorem ju {Q:Bool->A1->Prop}(h:Q (w.params.followText "set-order") s):Bv (BJ prog w) A setsByText Q E s:=by
 unfold setsByText
 exact AO (Gw (AV h))
theorem qM {a:Addr}{es:Array (Int×AS)}{ep:Nat}{t:SetTable}{Q:Option (AS×Nat)->A1->Prop}(ho:s.heap.get? a=some (aP es ep t))(T:Tab t (es.map (·.1)))(hl:t.led = !w.params.followText "set-order")(hp:t.plain=true){slot i:Nat}
  (hs:w.params.followText "set-order" = false->below t.place slot=i)
  (hy:∀x slot',(walkVals w a es ep)[i]? = some x->(w.params.followText "set-order" = false->below t.place slot'=i+1)->Q (some (x,slot')) s)
  (hn:(walkVals w a es ep)[i]? = none->Q none s):Bv (BJ prog w) A (setNext a slot i ep) Q E s:=by
 unfold setNext
 refine AO (bz ho T ?_)
 dsimp only
 refine AO (ju ?_)
 cases hb:w.params.followText "set-order" with
 | true =>
  rw[hb] at hs hy
  simp only[bne_self_eq_false,Bk,if_true,if_false]
  refine AO ?_
  unfold setWalk
  refine AO (bz ho T ?_)
  dsimp only
  refine AO (ju ?_)
  rw[hb]
  simp only[if_true]
  refine AO (Gw (AV ?_))
  refine AV ?_
  have ew:(walkVals w a es ep)[i]? = ((pickOrder (w.params.setOrder a ep) es)[i]?).map (·.2):=by
   unfold walkVals
   rw[if_pos hb,A4,A9]
  show Q (((pickOrder (w.params.setOrder a ep) es)[i]?).map λe=>(e.2,slot)) s
  cases hx:(pickOrder (w.params.setOrder a ep) es)[i]? with
  | none=>rw[hx] at ew;exact hn ew
  | some e=>rw[hx] at ew;exact hy _ _ ew (λq=>by cases q)
 | false =>
  have hs':=hs hb
  simp only[Bk,if_false]
  have ew:(walkVals w a es ep)[i]? = (es[i]?).map (·.2):=by
   unfold walkVals
   rw[if_neg (by rw[hb];exact Bf),A4,A9]
  show Bv _ _ (if (!t.plain && decide (es.size>1))=true then _ else _) _ _ _
  rw[hp]
  simp only[CL,FU,Bk,if_false]
  refine AO ?_
  show Bv _ _ (if (!t.led && !es.isEmpty)=true then _ else _) _ _ _
  rw[hl,hb]
  simp only[Hc,CL,FU,Bk,if_false]
  refine AV ?_
  rw[hs']
  by_cases hi:i<es.size
  ·have ee:es[i]? = some es[i]:=BE hi
   have hpl:i<t.place.size:=by rw[T.size,B6];exact hi
   have ep':t.place[i]? = some t.place[i]:=BE hpl
   rw[ee,ep']
   rw[ee] at ew
   exact AV (hy _ _ ew λ_=>qF T.rise ep')
  ·have ee:es[i]? = none:=Eg (by lia)
   rw[ee]
   rw[ee] at ew
   exact AV (hn ew)
def jv (h:Heap)(it a:Addr)(slot i n ep:Nat):Prop:=h.get? it=some { cls :=.type "set_iterator",data :=.fields #[.int slot 0,.int i 0,.ref a,.int n 0,.int ep 0] }
theorem jv.typeIs {it a:Addr}{slot i n ep:Nat}(x:jv s.heap it a slot i n ep):s.TypeIs (.ref it) "set_iterator" :=⟨_,x,rfl⟩
end
open PySem PySem.SetTable PyProof.Rows
section
variable  {prog:Bi}{w:BQ}{A:Cc}{E:AS->A1->Prop}{s:A1}
structure qN (w:BQ)(h:Heap)(it a:Addr)(es:Array (Int×AS))(ep i:Nat):Prop where
 st:∃t slot,h.get? a=some (aP es ep t)/\Tab t (es.map (·.1))/\t.led=(!w.params.followText "set-order")/\t.plain=true/\(w.params.followText "set-order" = false->below t.place slot=i)/\jv h it a slot i es.size ep
theorem sq {it a:Addr}{es:Array (Int×AS)}{ep i:Nat}{Q:Option AS->A1->Prop}(hh:A.handled=none)(hne:it≠a)(O:qN w s.heap it a es ep i)
  (hy:∀x h',(walkVals w a es ep)[i]? = some x->qN w h' it a es ep (i+1)->Heap.SameBut it s.heap h'->Q (some x) { s with heap:=h' })
  (hn:(walkVals w a es ep)[i]? = none->∀h',Heap.ExtBut it s.heap h'->Q none { s with heap:=h' }) :
  Bv (BJ prog w) A (pyNext (.ref it)) Q E s:=by
 obtain ⟨t,slot,ho,T,hl,hp,hs,hit⟩:=O.st
 have hf:t.fits es.size=true:=by have:=T.fits;rwa [B6] at this
 unfold pyNext
 refine AO (HL (Ed (name:=Str.ofString "__next__") hit.typeIs F9.fq
  (Dx F9.fq hit.typeIs F9.mB ?_ (F9.oe _))))
 show Bv _ _ (fieldsOf (.ref it) >>= _) _ _ s
 refine AO (wpAny_fieldsOf hit rfl ?_)
 show Bv _ _ (setEntries a >>= _) _ _ s
 refine AO (Hl ho rfl hf ?_)
 rw[if_neg (by simp)]
 show Bv _ _ (setNext a ((slot:Int).toNat) ((i:Int).toNat) ((ep:Int).toNat) >>= _) _ _ s
 rw[B2,B2,B2]
 refine AO (qM ho T hl hp hs (λx slot' ex hs' =>?_) λex =>?_)
 ·dsimp only
  refine AO (FR hit (by simp) λh1 e1 sb1 =>?_)
  refine AO (FR e1 (by simp) λh2 e2 sb2 =>?_)
  refine AV ⟨x,rfl,AV (hy x h2 ex ⟨t,slot',?_,T,hl,hp,hs',?_⟩ (sb1.trans sb2))⟩
  ·rw[(sb1.trans sb2).2 a (C7 hne)];exact ho
  ·unfold jv
   rw[e2]
   simp[Hf]
 ·dsimp only
  refine AO (FR hit (by simp) λh1 e1 sb1 =>?_)
  show Bv _ _ (newExc (.type "StopIteration") [] >>= _) _ _ _
  refine AO ?_
  simp only[newExc,newTuple]
  refine AO (B9 ?_ (by size_fits))
  refine AO (m:=firstArgMember _ _) (Hk (a:=DM) (by first | rfl | (simp only[firstArgMember];rfl)) ?_)
  refine B9 ?_ (by size_fits)
  simp only[raiseNew]
  refine AO (wpAny_handled ?_)
  first | rw[show A.in1.handled=none from hh] | rw[hh]
  refine AO (AV (wpAny_throw ?_))
  refine AO (Gx (T := "StopIteration") (b:=true) ⟨_,Bd _ rfl,rfl⟩ isSubtype_stop ?_)
  exact AV (hn ex _ ((sb1.extBut.push _).push _))
theorem pK {it a S:Addr}{es:Array (Int×AS)}{ep:Nat}{res:AS}{R:Result->A1->Prop}(hh:A.in1.handled=none)(hne:it≠a)(hSI:S≠it)(hSa:S≠a)(hz:es.size<300) :
  ∀(k i:Nat) (h:Heap) (acc:Array AS) (c:Nat),es.size-i=k->i<=es.size->qN w h it a es ep i->h.get? S=some { cls :=.type "list",dict:=none,data :=.seq acc c,slots := #[] }->acc.toList=(walkVals w a es ep).take i →
  (∀h' acc' c',(∀b o,b≠S->b≠it->h.get? b=some o->h'.get? b=some o)->h'.get? S=some { cls :=.type "list",dict:=none,data :=.seq acc' c',slots := #[] }->acc'.toList=walkVals w a es ep->R (.ok (.ret res)) { s with heap:=h' }) →
  Ff (BJ prog w) A (.builtin "list.extend.loop" ⟨[.ref S,.ref it,res],[]⟩) R { s with heap:=h }:=by
 have lw:(walkVals w a es ep).length=es.size:=by rw[(nA w a es ep).length_eq,AN,A5]
 have zl:300<=Ba:=by rw[EB];lia
 intro k
 induction k with
 | zero =>
  intro i h acc c hk hi O hS ha hR
  have hin:i=es.size:=by lia
  subst hin
  refine BR Hi ?_
  rw[BH Ec _]
  show Bv _ A.in1 (pyNext (.ref it) >>= _) _ _ { s with heap:=h }
  refine AO (sq hh hne O (λx h' ex =>?_) λex h' xb =>?_)
  ·rw[Cr (by lia)] at ex;cases ex
  ·refine AV (hR h' acc c (λb o _ hb e=>xb b o hb e) (xb S _ hSI hS) ?_)
   rw[ha,Bb (by lia)]
 | succ k ih =>
  intro i h acc c hk hi O hS ha hR
  have hlt:i<es.size:=by lia
  refine BR Hi ?_
  rw[BH Ec _]
  show Bv _ A.in1 (pyNext (.ref it) >>= _) _ _ { s with heap:=h }
  refine AO (sq hh hne O (λx h' ex O' sb =>?_) λex =>?_)
  ·have hS':h'.get? S=some { cls :=.type "list",dict:=none,data :=.seq acc c,slots := #[] }:=by rw[sb.2 S hSI];exact hS
   have hal:acc.size=i:=by rw[<- A5,ha,B4];lia
   show Bv _ A.in1 (updateSeq S (·.push x) >>= _) _ _ _
   refine AO ?_
   refine CN (s:={ s with heap:=h' }) hS' rfl (AV ⟨Ct Ec _,ih (i+1) _ (acc.push x) _ (by lia) hlt ?_ (Ci _ hS' rfl) ?_ λh'' acc' c' kk hS'' ha' =>?_⟩)
    (by rw[hal];lia) (by show (acc.push x).size<=Ba+1;rw[DV,hal];lia)
   ·obtain ⟨t,slot,ho,T,hl,hp,hs,hit⟩:=O'.st
    exact ⟨t,slot,(BB _ _ hSa).trans ho,T,hl,hp,hs,(BB _ _ hSI).trans hit⟩
   ·rw[Dl,ha,IV,ex];rfl
   ·refine hR h'' acc' c' (λb o hb hb2 e=>kk b o hb hb2 ?_) hS'' ha'
    refine (BB _ _ (C7 hb)).trans ?_
    rw[sb.2 b hb2];exact e
  ·rw[AQ (by lia)] at ex;cases ex
theorem pL {a:Addr}{es:Array (Int×AS)}{R:List AS->A1->Prop}(hh:A.handled=none)(I:cR w s.heap a es)(hz:es.size<300)
  (h:∀h1 vs,vs.Perm (es.toList.map (·.2))->(∀b o,s.heap.get? b=some o->h1.get? b=some o)->s.heap.objs.size<=h1.objs.size->R vs { s with heap:=h1 }) :
  Bv (BJ prog w) A (collect (.ref a)) R E s:=by
 obtain ⟨ep,t,ho,T,rm,hl,hp⟩:=I
 have hf:t.fits es.size=true:=by have:=T.fits;rwa [B6] at this
 have hlt:=Bc ho
 unfold collect
 refine AO (Es (BR GR ?_))
 rw[BH GS _]
 show Bv _ A.in1 (newList [] >>= λl=>again (.builtin "list.__iadd__" ⟨[l,.ref a],[]⟩)) _ _ s
 refine AO (B9 ?_)
 refine AV ⟨Ct Fc _,BR HX ?_⟩
 rw[BH Fc _]
 show Bv _ A.in1 (Cz (.ref s.heap.objs.size) (.ref a) (.ref s.heap.objs.size)) _ _ _
 unfold Cz
 have hSa:s.heap.objs.size≠a:=D5 hlt
 have z1:(s.heap.push { cls :=.type "list",data :=.seq ([]:List AS).toArray }).objs.size=s.heap.objs.size+1:=DC _ _
 have ho1:(s.heap.push { cls :=.type "list",data :=.seq ([]:List AS).toArray }).get? a=some (aP es ep t):=AU _ ho
 have hT1:Shared.TypeIs { s with heap:=s.heap.push { cls :=.type "list",data :=.seq ([]:List AS).toArray } } (.ref a) "set" :=⟨_,ho1,rfl⟩
 refine AO (Dr hT1 ?_)
 have h1:D4 (.ref s.heap.objs.size) (.ref a)=false:=by simp[D4,hSa]
 have h2:(DH "set" == DH "list")=false:=by decide
 have h3:(DH "set" == DH "tuple")=false:=by decide
 simp only[h1,h2,h3,Jf,Bk,if_false]
 refine AO (wpAny_pyIter_slot hT1 ID (Dx ID hT1 F9.kT ?_ (F.args_set_iter_1 _)))
 unfold Builtin.«frozenset.__iter__» Builtin.Frozenset.slot0 slotArgs
 simp only[List.isEmpty_nil,CL,Bk, ↓reduceIte,bind_assoc,EV,bne_self_eq_false]
 unfold Builtin.Frozenset.addrOf Builtin.Frozenset.sizeOf
 refine AO (AV ?_)
 try dsimp only
 refine AO (AV ?_)
 refine AO (AO (Hl ho1 rfl hf (AV ?_)))
 refine AO ?_
 unfold setDrawn
 refine AO (bz ho1 T ?_)
 dsimp only
 refine AO (ju ?_)
 show Bv _ _ (pure (!w.params.followText "set-order" && (!t.plain && decide (es.size>1)))) _ _ _
 rw[hp]
 simp only[CL,FU,G9]
 refine AV ?_
 simp only[Bk,if_false]
 refine AO (AV ?_)
 refine AO (wpAny_setEpoch_of ho1 rfl hf ?_)
 refine AO (B9 (AV ⟨_,rfl, "set_iterator",_,⟨_,Bd _ rfl,rfl⟩,F9.fq.lookup,?_⟩))
 have zit:(s.heap.push { cls :=.type "list",data :=.seq ([]:List AS).toArray }).objs.size=s.heap.objs.size+1:=z1
 show Bv _ A.in1 (Fg [.ref (s.heap.push { cls :=.type "list",data :=.seq ([]:List AS).toArray }).objs.size] (DJ (.ref a)) >>= _) _ _ { s with heap:=(s.heap.push { cls :=.type "list",data :=.seq ([]:List AS).toArray }).push { cls :=.type "set_iterator",data :=.fields #[Hf 0,Hf 0,.ref a,Hf es.size,Hf ep] } }
 rw[zit]
 generalize hH:(s.heap.push { cls :=.type "list",data :=.seq ([]:List AS).toArray }).push { cls :=.type "set_iterator",data :=.fields #[Hf 0,Hf 0,.ref a,Hf es.size,Hf ep] }=H
 have kH:∀b o,(s.heap.push { cls :=.type "list",data :=.seq ([]:List AS).toArray }).get? b=some o->H.get? b=some o:=λb o e=>by rw[<- hH];exact AU _ e
 have zH:H.objs.size=s.heap.objs.size+2:=by rw[<- hH,DC,z1]
 have hit:jv H (s.heap.objs.size+1) a 0 0 es.size ep:=by
  unfold jv
  rw[<- hH, <- z1]
  exact Bd _ rfl
 have hT2:Shared.TypeIs { s with heap:=H } (.ref a) "set" :=⟨_,kH _ _ ho1,rfl⟩
 refine AO (B8 ?_)
 unfold DJ
 refine AO (FG hT2 F.slot_set_len.lookup ?_)
 dsimp only
 rw[show splitId "set.__len__" = some ("set", "__len__") by kernel_rfl]
 dsimp only
 refine AO (Gx hT2 sub_set_self ?_)
 simp only[CL,Bk,if_false]
 show Bv _ _ (typeOf (.ref a) >>= _) _ _ _
 refine AO (Dr hT2 ?_)
 refine AV ?_
 show Bv _ A.in1 (rule "list.extend.makes-room" >>= λ_=>Builtin.List.listTouch (.ref s.heap.objs.size) >>= λ_ =>
  again (.builtin "list.extend.loop" ⟨[.ref s.heap.objs.size,.ref (s.heap.objs.size+1),.ref s.heap.objs.size],[]⟩)) _ _ _
 refine AO (D3 ?_)
 have hS₁:H.get? s.heap.objs.size=some { cls :=.type "list",data :=.seq ([]:List AS).toArray }:=kH _ _ (Bd _ rfl)
 refine AO ?_
 show Bv _ A.in1 (updateSeq s.heap.objs.size (·.push .none) >>= λ_=>updateSeq s.heap.objs.size (·.pop)) _ _ _
 refine AO (CN (s:={ s with heap:=H }) hS₁ rfl ?_)
 have hS₂:=Ci (CT (·.push DM)) hS₁ rfl
 refine CN hS₂ rfl ?_
 have hS₃:=Ci (CT (·.pop)) hS₂ rfl
 have oth:∀b o,b≠s.heap.objs.size->H.get? b=some o->((H.update s.heap.objs.size (CT (·.push DM))).update s.heap.objs.size (CT (·.pop))).get? b=some o :=
  λb o hb e=>(BB _ _ (C7 hb)).trans ((BB _ _ (C7 hb)).trans e)
 refine AV ⟨Ct Ec _,pK (it:=s.heap.objs.size+1) (a:=a) (es:=es) (ep:=ep) (s:=s) hh (D5 (Cy hlt)) (Bz (CZ _)) hSa hz es.size 0 _ _ _ rfl (BX _)
  ⟨t,0,oth a _ (C7 hSa) (kH _ _ ho1),T,hl,hp,λ_=>qG T.rise,oth _ _ (D5 (CZ _)) hit⟩ hS₃ rfl λh' acc' c' kk hS' ha =>?_⟩
 show Bv _ A (load s.heap.objs.size >>= _) _ _ { s with heap:=h' }
 refine AO (G4 hS' ?_)
 have kf:∀b o,s.heap.get? b=some o->h'.get? b=some o:=λb o e=>by
  have:=Bc e
  exact kk b o (Bz this) (Bz (Cy this)) (oth b o (Bz this) (kH b o (AU _ e)))
 refine AV ?_
 rw[ha]
 exact h h' _ (nA w a es ep) kf (CK (Bc hS'))
end
open PySem PySem.SetTable PyProof.Rows Srt
def Kd.sub {prog:Bi}{w:BQ}{κ:Type}(kd:Kd prog w κ)(M:AS->Prop):Kd prog w κ where
 El:=λh v k=>kd.El h v k/\M v
 hash:=kd.hash
 room:=kd.room
 keeps:=λx t=>⟨kd.keeps x.1 t,x.2⟩
 inj:=λx y=>kd.inj x.1 y.1
 add:=by
  intro A E s a es v k Q hr I els hv hz hin hnew
  refine kd.add hr I (λe he =>?_) hv.1 hz (λx tk htk=>hin ?_ tk htk) λx h' es' tk htk sb I' pm=>hnew ?_ h' es' tk htk sb I' pm
  ·obtain ⟨k',a1,a2,a3⟩:=els e he;exact ⟨k',a1,a2⟩
  ·obtain ⟨e,he,y⟩:=x
   obtain ⟨k',a1,a2,a3⟩:=els e he
   exact ⟨e,he,y,a3⟩
  ·rintro ⟨e,he,y,_⟩;exact x ⟨e,he,y⟩
section
variable  {prog:Bi}{w:BQ}{A:Cc}{E:AS->A1->Prop}{s:A1}{O:Fw}{key:AS->O.α}
theorem qO {a:Addr}{es:Array (Int×AS)}{Q:AS->A1->Prop}(hh:A.handled=none)(I:cR w s.heap a es)(hz:es.size<300)(C:∀vs:List AS,vs.Perm (es.toList.map (·.2))->iM prog w s vs O key)
  (h:∀(h':Heap) (p:Addr) (out:List AS) (n:Nat),(∀b o,s.heap.get? b=some o->h'.get? b=some o)->s.heap.objs.size<=p->h'.get? p=some (seqObj "list" out.toArray n)->out.Perm (es.toList.map (·.2))->out.Pairwise (λx y=>O.kle (key x) (key y))->Q (.ref p) { s with heap:=h' }) :
  Bv (BJ prog w) A (call (.builtin "sorted") [.ref a]) Q E s:=by
 refine Er IL Ii Ij (Ik _) ?_
 unfold Builtin.«sorted»
 refine AO (m:=checkCount "sorted" 1 1 _) (AV ?_)
 refine AO (pL (by simpa using hh) I hz λh1 vs pv k1 z1 =>?_)
 have hz':vs.length<=Ba:=by
  rw[pv.length_eq,AN,A5]
  have:300<=Ba:=by rw[EB];lia
  lia
 refine AO (Fy ?_ hz')
 have hoL:(h1.push (seqObj "list" vs.toArray 0)).get? h1.objs.size=some (seqObj "list" vs.toArray 0):=Bd _ rfl
 have kL:∀b o,s.heap.get? b=some o->(h1.push (seqObj "list" vs.toArray 0)).get? b=some o:=λb o e=>AU _ (k1 b o e)
 refine AO (B8 (Dx slot_list_sort ⟨_,hoL,rfl⟩ entry_list_sort (dJ (key:=key) (O:=O) hoL hz' (λh2 h6 k6 =>?_) λout pm ps=>⟨_,rfl,?_⟩) (Hd _)))
 ·exact (C vs pv).ok h2 _ h6 λb o e=>k6 b o (Bz (Bm (Bc e) z1)) (kL b o e)
 ·obtain ⟨n,en⟩:=HK (out:=out.toArray) hoL
  refine AV ⟨_,rfl,h _ _ out n (λb o e =>?_) z1 en (pm.trans pv) ps⟩
  have lt:=Bm (Bc e) z1
  rw[He (Bz lt) (by rw[Ib];exact Cy lt)]
  exact kL b o e
end
end STab
namespace L2
open PySem PySem.Spec PyProof.Rows
section
variable  {X:Cx}
def gW (w:BQ)(a:Addr)(ys:List V):HO :=.ext λh=>∃es,STab.cR w h a es/\Vals ys (es.toList.map (·.2))
theorem sr {prog:Bi}{w:BQ}{H:Hp}{h:Heap}{a:Addr}{ys:List V}{es:Array (Int×AS)}(I:STab.cR w h a es)(r:Vals ys (es.toList.map (·.2))):aZ prog w (upd H a (gW w a ys)) h a (gW w a ys):=by
 refine ⟨⟨es,I,r⟩,?_,λh1 h2 ⟨es',I',r'⟩ k=>⟨es',I'.at k,r'⟩⟩
 obtain ⟨ep,t,ho,_⟩:=I
 exact ⟨_,ho⟩
theorem pM:∀{ns:List Int} {xs:List AS} {prog:Bi} {w:BQ},DL xs ns->ItemsAre (intKind prog w) ns xs
 | _,_,_,_,.nil =>.nil
 | _,_,_,_,.cons n t r =>.cons (Gf _ _ _ _) (pM r)
theorem Inv.tk {pins:List (Addr×Obj)}{σ:St}{H:Hp}{s:A1}(I:Inv X pins σ H s){b:Addr}{ns:List Int}(h:SqT X.K H b (ns.map V.int)):STab.TK X.prog X.w s.heap ns b:=by
 obtain ⟨its,r,⟨o,e,c,n,d⟩,_⟩:=I.tuple h
 exact ⟨o,_,n,e,c,d,pM (by simpa using cw r)⟩
theorem pull {α β:Type}{f:α -> β}{ts:List α}:∀{l:List β},(∀v∈l,∃t∈ts,v=f t)->∃us:List α,l=us.map f/\∀t∈us,t∈ts
 | [],_=>⟨[],rfl,λt h=>by cases h⟩
 | v :: l,h=>by
  obtain ⟨t,ht,e⟩:=h v Be
  obtain ⟨us,e2,m⟩:=pull (l:=l) λv' hv=>h v' (Br _ hv)
  refine ⟨t :: us,by rw[BF, <- e, <- e2],λt' ht' =>?_⟩
  rcases Bs.mp ht' with rfl | h'
  ·exact ht
  ·exact m _ h'
theorem uH (hh:X.A.handled=none)(hu:X.A.units+64<cLine):bK X (.type "set") (λxs H Q=>∃(p:Addr) (ts:List (Addr×List Int)),xs=[.ref p]/\(SqL X.K H p (ts.map λt =>.ref t.1)\/SqT X.K H p (ts.map λt =>.ref t.1))/\(∀t∈ts,SqT X.K H t.1 (t.2.map V.int))/\ts.length<300 ∧
  ∀(a:Addr) (us:List (Addr×List Int)),H a=none->(∀t∈us,t∈ts)->(us.map (·.2)).Nodup->(∀t∈ts,t.2∈us.map (·.2))->us.length<=ts.length->Q (.ref a) (upd H a (gW X.w a (us.map λt =>.ref t.1)))):=by
 intro pins s σ H xs vs Q I r h
 obtain ⟨p,ts,rfl,hs,ht,hl,q⟩:=h
 obtain ⟨u,rfl,ru⟩:=vals1 r
 cases (show u=Bl p from ru)
 have goal:∀(items:Array AS),items.toList=(ts.map λt=>Bl t.1)->∀(h':Heap) (es:Array (Int×AS)) (tk:Nat),s.toks<=tk->STab.cR X.w h' s.heap.objs.size es->STab.Good ((STab.jX X.prog X.w).sub (· ∈ items.toList)) h' es (ts.map (·.2)) →
   (∀b o,s.heap.get? b=some o->h'.get? b=some o)->EP X pins σ Q (.ref s.heap.objs.size) { s with heap:=h',toks:=tk }:=by
  intro items ei h' es tk _ S G k
  obtain ⟨us,eu,mu⟩:=pull (f:=λt:Addr×List Int=>Bl t.1) (ts:=ts) (l:=es.toList.map (·.2)) (λv hv=>by
   obtain ⟨e,he,rfl⟩:=Bh.mp hv
   obtain ⟨_,_,_,_,m⟩:=G.el e (BM.mp he)
   rw[ei] at m
   obtain ⟨t,ht',e'⟩:=Bh.mp m
   exact ⟨t,ht',e'.symm⟩)
  have tk':∀t∈us,STab.TK X.prog X.w h' t.2 t.1:=λt m=>(I.tk (ht t (mu t m))).keep λb o _ e=>k b o e
  have elu:∀t∈us,((STab.jX X.prog X.w).sub (· ∈ items.toList)).El h' (.ref t.1) t.2:=λt m=>⟨⟨t.1,rfl,tk' t m⟩,by
   rw[ei];exact Bh.mpr ⟨t,mu t m,rfl⟩⟩
  have nd:(us.map (·.2)).Nodup:=by
   have d:=G.dis
   have d2:(es.toList.map (·.2)).Pairwise (λv v'=>∀k,((STab.jX X.prog X.w).sub (· ∈ items.toList)).El h' v k->¬ ((STab.jX X.prog X.w).sub (· ∈ items.toList)).El h' v' k):=by
    rw[BW];exact d
   rw[eu,BW] at d2
   unfold List.Nodup
   rw[BW]
   refine d2.imp_of_mem λ{t t'} m m' x e=>x t.2 (elu t m) ?_
   have:=elu t' m'
   rw[<- e] at this
   exact this
  have cov:∀t∈ts,t.2∈us.map (·.2):=λt m=>by
   obtain ⟨e,he,x,_⟩:=G.all t.2 (Bh.mpr ⟨t,m,rfl⟩)
   have:e.2∈us.map λt=>Bl t.1:=by rw[<- eu];exact Bh.mpr ⟨e,BM.mpr he,rfl⟩
   obtain ⟨u,hu',e'⟩:=Bh.mp this
   obtain ⟨b,eb,x⟩:=x
   rw[<- e'] at eb
   injection eb with eb
   subst eb
   exact Bh.mpr ⟨u,hu',(tk' u hu').inj x⟩
  have hlen:us.length<=ts.length:=by
   have:=G.len
   rw[AN] at this
   have e2:=congrArg List.length eu
   rw[AN,AN,A5] at e2
   lia
  refine ⟨.ref s.heap.objs.size,_,I.laid k (AY _) (sr (ys:=us.map λt=>V.ref t.1) S (by rw[eu];exact gI)),rfl,q _ us (I.hok.fresh (AY _)) mu nd cov hlen⟩
 have rm:((STab.jX X.prog X.w).sub (λv=>True)).room X.A.in1.in1.in1:=by show X.A.units+1+1+1<cLine;lia
 have itm:∀(its:List AS),its=(ts.map λt=>Bl t.1)->∀(i:Nat) (v:AS),its.toArray[i]? = some v->∃q,(ts.map (·.2))[i]? = some q/\((STab.jX X.prog X.w).sub (· ∈ its.toArray.toList)).El s.heap v q:=by
  intro its ei i v hv
  rw[Cj,ei,A4] at hv
  cases ht':ts[i]? with
  | none=>rw[ht'] at hv;cases hv
  | some t =>
   rw[ht'] at hv
   cases hv
   have m:=A8 ht'
   refine ⟨t.2,by rw[A4,ht'];rfl,⟨t.1,rfl,I.tk (ht t m)⟩,?_⟩
   show Bl t.1∈its
   rw[ei]
   exact Bh.mpr ⟨t,m,rfl⟩
 rcases hs with hs | hs
 ·obtain ⟨its,rv,⟨o,n,e,c,dn,d⟩,z⟩:=I.list hs
  have ei:=d7 rv
  have lz:its.length=ts.length:=by rw[ei,AN]
  refine STab.call_set_list (kd:=(STab.jX X.prog X.w).sub (· ∈ its.toArray.toList)) (items:=its.toArray) (ks:=ts.map (·.2)) hh rm ⟨o,e,c,n,d⟩ (by simp[lz]) (λi v hv =>?_) (by simpa [lz] using hl) (goal its.toArray (by simpa using ei))
  exact itm its ei i v hv
 ·obtain ⟨its,rv,⟨o,e,c,n,d⟩,z⟩:=I.tuple hs
  have ei:=d7 rv
  have lz:its.length=ts.length:=by rw[ei,AN]
  refine STab.fT (kd:=(STab.jX X.prog X.w).sub (· ∈ its.toArray.toList)) (items:=its.toArray) (ks:=ts.map (·.2)) hh rm ⟨o,e,c,n,d⟩ (by simp[lz]) (λi v hv =>?_) (by simpa [lz] using hl) (goal its.toArray (by simpa using ei))
  exact itm its ei i v hv
theorem uI (hh:X.A.handled=none):bK X (.type "set") (λxs H Q=>∃(p:Addr) (ns:List Int),xs=[.ref p]/\(SqL X.K H p (ns.map V.int)\/SqT X.K H p (ns.map V.int))/\ns.length<300 ∧
  ∀(a:Addr) (us:List Int),H a=none->(∀k,k∈us↔k∈ns)->us.Nodup->us.length<=ns.length->Q (.ref a) (upd H a (gW X.w a (us.map V.int)))):=by
 intro pins s σ H xs vs Q I r h
 obtain ⟨p,ns,rfl,hs,hl,q⟩:=h
 obtain ⟨u,rfl,ru⟩:=vals1 r
 cases (show u=Bl p from ru)
 have goal:∀(h':Heap) (es:Array (Int×AS)) (tk:Nat),s.toks<=tk->STab.cR X.w h' s.heap.objs.size es->STab.Good (STab.sg X.prog X.w) h' es ns →
   (∀b o,s.heap.get? b=some o->h'.get? b=some o)->EP X pins σ Q (.ref s.heap.objs.size) { s with heap:=h',toks:=tk }:=by
  intro h' es tk _ S G k
  have sh:∀v∈es.toList.map (·.2),∃k t,v=CQ k t:=λv hv=>by
   obtain ⟨e,he,rfl⟩:=Bh.mp hv
   obtain ⟨k',_,_,t,e'⟩:=G.el e (BM.mp he)
   exact ⟨k',t,e'⟩
  have ru:=fg (dZ sh)
  have mem:∀k,k∈(es.toList.map (·.2)).map Srt.intOf↔k∈ns:=λk=>by
   constructor
   ·intro m
    obtain ⟨v,hv,rfl⟩:=Bh.mp m
    obtain ⟨e,he,rfl⟩:=Bh.mp hv
    obtain ⟨k',mk,_,t,e'⟩:=G.el e (BM.mp he)
    rw[e'];exact mk
   ·intro m
    obtain ⟨e,he,t,e'⟩:=G.all k m
    exact Bh.mpr ⟨e.2,Bh.mpr ⟨e,BM.mpr he,rfl⟩,by rw[e'];rfl⟩
  have nd:((es.toList.map (·.2)).map Srt.intOf).Nodup:=by
   unfold List.Nodup
   rw[BW,BW]
   refine G.dis.imp_of_mem λ{e e'} m m' x y =>?_
   obtain ⟨k1,_,_,t1,e1⟩:=G.el e (BM.mp m)
   obtain ⟨k2,_,_,t2,e2⟩:=G.el e' (BM.mp m')
   rw[e1,e2] at y
   have y':k1=k2:=y
   subst y'
   exact x k1 ⟨t1,e1⟩ ⟨t2,e2⟩
  refine ⟨.ref s.heap.objs.size,_,I.laid k (AY _) (sr S ru),rfl,q _ _ (I.hok.fresh (AY _)) mem nd (by rw[AN,AN,A5];exact G.len)⟩
 have itm:∀(its:List AS),Vals (ns.map V.int) its->∀(i:Nat) (v:AS),its.toArray[i]? = some v->∃q,ns[i]? = some q/\(STab.sg X.prog X.w).El s.heap v q:=by
  intro its rv i v hv
  have hI:=cw rv
  obtain ⟨t,e⟩:=IntsAre.int_at hI i v (by rw[Cj] at hv;exact hv)
  have hlt:i<ns.length:=by
   have:=hI.length
   rw[Cj] at hv
   have:=(AW.mp hv).1
   lia
  refine ⟨ns.getD i 0,?_,t,e⟩
  rw[A6,AQ hlt]
  rfl
 rcases hs with hs | hs
 ·obtain ⟨its,rv,⟨o,n,e,c,dn,d⟩,z⟩:=I.list hs
  have lz:its.length=ns.length:=by have:=rv.length;rw[AN] at this;exact this.symm
  exact STab.call_set_list (kd:=STab.sg X.prog X.w) (items:=its.toArray) (ks:=ns) hh trivial ⟨o,e,c,n,d⟩ (by simp[lz]) (itm its rv) (by simpa [lz] using hl) goal
 ·obtain ⟨its,rv,⟨o,e,c,n,d⟩,z⟩:=I.tuple hs
  have lz:its.length=ns.length:=by have:=rv.length;rw[AN] at this;exact this.symm
  exact STab.fT (kd:=STab.sg X.prog X.w) (items:=its.toArray) (ks:=ns) hh trivial ⟨o,e,c,n,d⟩ (by simp[lz]) (itm its rv) (by simpa [lz] using hl) goal
theorem Inv.gW {pins:List (Addr×Obj)}{σ:St}{H:Hp}{s:A1}(I:Inv X pins σ H s){a:Addr}{ys:List V}(h:H a=some (gW X.w a ys)):∃es,STab.cR X.w s.heap a es/\Vals ys (es.toList.map (·.2)):=by
 exact (I.hok a _ h).1
theorem mC (hh:X.A.handled=none):bK X (.builtin "sorted") (λxs H Q=>∃(a:Addr) (ts:List (Addr×List Int)),xs=[.ref a]/\H a=some (gW X.w a (ts.map λt =>.ref t.1))/\(∀t∈ts,SqT X.K H t.1 (t.2.map V.int)/\t.2≠[])/\ts.length<300 ∧
  ∀(l:Addr) (out:List (Addr×List Int)),H l=none->out.Perm ts->out.Pairwise (λa b=>HT.lexLt b.2 a.2=false)->Q (.ref l) (upd H l (.lst (out.map λt =>.ref t.1)))):=by
 intro pins s σ H xs us Q I r h
 obtain ⟨a,ts,rfl,hs,ht,hl,q⟩:=h
 obtain ⟨u,rfl,ru⟩:=vals1 r
 cases (show u=Bl a from ru)
 obtain ⟨es,S,rv⟩:=I.gW hs
 have ei:=d7 rv
 have lz:es.size=ts.length:=by have:=rv.length;simp at this;lia
 have tup:∀t∈ts,Srt.c9 s.heap (Bl t.1) t.2:=λt hm=>by
  obtain ⟨jts,jr,⟨jo,je,jc,jn,jd⟩,_⟩:=I.tuple (ht t hm).1
  exact ⟨t.1,jo,_,jn,rfl,je,jc,jd,by simpa using cw jr⟩
 have hv:∀v∈es.toList.map (·.2),∃ns,Srt.c9 s.heap v ns/\ns≠[]:=λv hv=>by
  rw[ei] at hv
  obtain ⟨t,hm,rfl⟩:=Bh.mp hv
  exact ⟨t.2,tup t hm,(ht t hm).2⟩
 refine STab.qO (O:=Srt.lexOrd) (key:=Srt.cE s.heap) hh S (by lia) (λvs pv=>Srt.iQ λv hm=>hv v (pv.mem_iff.mp hm)) λh' l out m k hl' el pm ps =>?_
 rw[ei] at pm
 obtain ⟨out',pm',rfl⟩:=kP pm
 have z:ts.length<=Ba:=by have:300<=Ba:=(by rw[EB];lia);lia
 refine ⟨.ref l,_,I.newList k hl' el gI (by rw[AN,pm'.length_eq];exact z),rfl,q l _ (I.hok.fresh hl') pm' ?_⟩
 refine (BW.mp ps).imp_of_mem λ{a b} ha hb le =>?_
 have le':HT.lexLt (Srt.cE s.heap (Bl b.1)) (Srt.cE s.heap (Bl a.1))=false:=le
 rw[(tup a (pm'.mem_iff.mp ha)).ints,(tup b (pm'.mem_iff.mp hb)).ints] at le'
 exact le'
end
open PySem PySem.Spec PyProof.Rows
section
variable  {X:Cx}{w:BQ}
theorem qP (hw:X.w=w)(hh:X.A.handled=none)(hu:X.A.units+64<cLine):bK X (.type "set") (λxs H Q=>∃(p:Addr) (ts:List (Addr×List Int)),xs=[.ref p]/\(SqL X.K H p (ts.map λt =>.ref t.1)\/SqT X.K H p (ts.map λt =>.ref t.1))/\(∀t∈ts,SqT X.K H t.1 (t.2.map V.int))/\ts.length<300 ∧
  ∀(a:Addr) (us:List (Addr×List Int)),H a=none->(∀t∈us,t∈ts)->(us.map (·.2)).Nodup->(∀t∈ts,t.2∈us.map (·.2))->us.length<=ts.length->Q (.ref a) (upd H a (gW w a (us.map λt =>.ref t.1)))):=by
 subst hw
 exact uH hh hu
theorem qQ (hw:X.w=w)(hh:X.A.handled=none):bK X (.type "set") (λxs H Q=>∃(p:Addr) (ns:List Int),xs=[.ref p]/\(SqL X.K H p (ns.map V.int)\/SqT X.K H p (ns.map V.int))/\ns.length<300 ∧
  ∀(a:Addr) (us:List Int),H a=none->(∀k,k∈us↔k∈ns)->us.Nodup->us.length<=ns.length->Q (.ref a) (upd H a (gW w a (us.map V.int)))):=by
 subst hw
 exact uI hh
theorem kU (hw:X.w=w)(hh:X.A.handled=none):bK X (.builtin "sorted") (λxs H Q=>∃(a:Addr) (ts:List (Addr×List Int)),xs=[.ref a]/\H a=some (gW w a (ts.map λt =>.ref t.1))/\(∀t∈ts,SqT X.K H t.1 (t.2.map V.int)/\t.2≠[])/\ts.length<300 ∧
  ∀(l:Addr) (out:List (Addr×List Int)),H l=none->out.Perm ts->out.Pairwise (λa b=>HT.lexLt b.2 a.2=false)->Q (.ref l) (upd H l (.lst (out.map λt =>.ref t.1)))):=by
 subst hw
 exact mC hh
end
open PySem PySem.Spec PyProof.Rows
section
variable  {X:Cx}
def tBMT (r:V->List V->Hp->VK->Prop)(to:TE)(t:TA):TE:=λσ H Q=>to σ H λx H1=>(∃p xs,x = .ref p/\H1 p=some (.tup xs))/\t σ H1 λxs H2=>r x xs H2 Q
theorem kX {o e:Expr}{es:List Expr}{to:TE}{t:TA}{name:Str}{apos cpos:Pos}{id:String}{r:V->List V->Hp->VK->Prop}(slot:Slot "tuple" name id)(hty:typeOf (.builtin id)=pure (.type "method_descriptor"))(hm:MtR X id r)(ho:PE X o to)(ha:PA X (e :: es) t)
  (hbase:attributeBase o name X.env (eval o X.env)=eval o X.env:=by rfl)
  (hfew:((E4 cpos (Cm (e :: es) X.env)).all (λx => !x.1) && (backToKw cpos (keywordEach [] X.env)).all (λx=>x.1.isSome)
   && decide ((e :: es).length+([]:List Keyword).length+(if ([]:List Keyword).isEmpty then 0 else 1)<30))=true:=by rfl)
  (hline:(apos.endLine == cpos.line)=true:=by rfl) (hs:Cm (e :: es) X.env=(false,eval e X.env) :: Cm es X.env:=by rfl) (hplain:(E4 cpos (Cm es X.env)).any (·.1)=false:=by rfl) :
  PE X (.Call (.Attribute o name apos) (e :: es) [] cpos) (tBMT r to t):=by
 intro pins s σ H Q I h
 refine GD hbase hfew hline rfl (thn (ho pins s σ H _ I h) λv s1 ⟨x,H1,I1,r1,ty,q1⟩ =>?_)
 obtain ⟨p,xs,rfl,hp⟩:=ty
 cases (show v=Bl p from r1)
 obtain ⟨_,its,_,ob,e1,⟨c1,d1⟩,n,s1'⟩:=(show aZ X.prog X.w H1 s1.heap p (.tup xs) from I1.hok p _ hp)
 refine ⟨"tuple",id,PySem.F.plainAttrs_tuple,slot,hty,⟨ob,e1,c1⟩,λa e=>by cases e;exact ⟨ob,e1,d1⟩,?_⟩
 have hA:=ha cpos pins s1 σ H1 _ I1 q1
 rw[hs] at hA ⊢
 refine E2 (by show (false || (E4 cpos (Cm es X.env)).any (·.1))=false;rw[hplain] <;> rfl) (G5 ?_)
 exact thn hA λus s2 ⟨vs,H2,I2,r2,q2⟩=>hm pins s2 σ H2 (.ref p) vs _ us Q I2 rfl r2 q2
theorem jw {A:Cc}{s:A1}{k:Int}{t:Tok}{its:List AS}{ns:List Int}(hi:DL its ns):∀y,y∈its.toArray->EI A s y (.int k t) (isInt k y):=λy hy =>
 (eq_isInt k t hi y (by simpa using hy)).at _ _
theorem nC:∀{ns:List Int} {xs:List AS} {prog:Bi} {w:BQ},DL xs ns->ItemsAre (intKind prog w) ns xs
 | _,_,_,_,.nil =>.nil
 | _,_,_,_,.cons n t r =>.cons (Gf _ _ _ _) (nC r)
theorem Inv.tkA {pins:List (Addr×Obj)}{σ:St}{H:Hp}{s:A1}(I:Inv X pins σ H s){b:Addr}{ns:List Int}(h:SqT X.K H b (ns.map V.int))(prog:Bi)(w:BQ):IsTupleKey (intKind prog w) s.heap ns b:=by
 obtain ⟨its,r,⟨o,e,c,n,d⟩,_⟩:=I.tuple h
 exact ⟨o,_,n,e,c,d,nC (by simpa using intsAre_of r)⟩
theorem Inv.eqT {pins:List (Addr×Obj)}{σ:St}{H:Hp}{s:A1}(I:Inv X pins σ H s){A:Cc}(hu:A.units<cLine){a b:Addr}{ns ms:List Int}(h1:SqT X.K H a (ns.map V.int))(h2:SqT X.K H b (ms.map V.int)):EI A s (.ref a) (.ref b) (decide (ns=ms)) :=
 λprog w E Q q=>HM hu (I.tkA h1 prog w) (I.tkA h2 prog w) q
theorem dh:∀{ps:List (Addr×List Int)} {us:List AS},Vals (ps.map λx=>V.ref x.1) us->us=ps.map λx=>Bl x.1
 | [],_,r=>by cases r;rfl
 | p :: ps,_,r=>by
  cases r with
  | cons h t=>rw[BF, <- dh t,show _=Bl p.1 from h]
noncomputable def di (ts:List (Addr×List Int))(m:List Int):AS->Bool:=λv=>decide (∃t∈ts,v = .ref t.1/\t.2=m)
theorem cB {pins:List (Addr×Obj)}{σ:St}{H:Hp}{s:A1}(I:Inv X pins σ H s){ts:List (Addr×List Int)}(ht:∀t∈ts,SqT X.K H t.1 (t.2.map V.int)){m:List Int}{t:Addr×List Int}(hm:t∈ts):di ts m (.ref t.1)=decide (t.2=m):=by
 unfold di
 by_cases e:t.2=m
 ·rw[decide_eq_true e,decide_eq_true ⟨t,hm,rfl,e⟩]
 ·rw[decide_eq_false e,decide_eq_false]
  rintro ⟨t',m',e1,e2⟩
  injection e1 with e1
  have:=I.mI (ht t hm) (by rw[e1];exact ht t' m')
  have inj:Function.Injective V.int:=λa b h=>by injection h
  have:t.2=t'.2:=(List.map_inj_right (λx y h=>inj h)).mp this
  exact e (this.trans e2)
theorem qR {pins:List (Addr×Obj)}{σ:St}{H:Hp}{s:A1}(I:Inv X pins σ H s){ts:List (Addr×List Int)}(ht:∀t∈ts,SqT X.K H t.1 (t.2.map V.int)){m:List Int}:∀us:List (Addr×List Int),(∀t∈us,t∈ts)->(us.map λt=>Bl t.1).countP (di ts m)=(us.map (·.2)).count m
 | [],_=>rfl
 | u :: us,h=>by
  rw[BF,BF,Gq,IE,qR I ht us (λt hm=>h t (Br _ hm)),cB I ht (h u Be)]
  by_cases e:u.2=m
  ·rw[decide_eq_true e,e];simp
  ·rw[decide_eq_false e];simp[e]
theorem og {pins:List (Addr×Obj)}{σ:St}{H:Hp}{s:A1}(I:Inv X pins σ H s){ts:List (Addr×List Int)}(ht:∀t∈ts,SqT X.K H t.1 (t.2.map V.int)){m:List Int}:∀us:List (Addr×List Int),(∀t∈us,t∈ts)->(us.map λt=>Bl t.1).any (di ts m)=decide (m∈us.map (·.2))
 | [],_=>by simp
 | u :: us,h=>by
  rw[BF,BF,Ek,og I ht us (λt hm=>h t (Br _ hm)),cB I ht (h u Be)]
  by_cases e:u.2=m
  ·rw[decide_eq_true e,e];simp
  ·rw[decide_eq_false e,HC]
   have:(m∈u.2 :: us.map (·.2))↔m∈us.map (·.2):=by
    rw[Bs]
    exact ⟨λh=>h.elim (λh=>absurd h.symm e) id,.inr⟩
   exact decide_eq_decide.mpr this.symm
theorem su (hu:X.A.units+8<cLine):OpR X (CP .In) (λx y H Q=>∃(p b:Addr) (ts:List (Addr×List Int)) (m:List Int),x = .ref b/\y = .ref p/\H p=some (.tup (ts.map λt =>.ref t.1))/\(∀t∈ts,H t.1=some (.tup (t.2.map V.int)))/\H b=some (.tup (m.map V.int))/\Q (.bl (decide (m∈ts.map (·.2)))) H):=by
 intro pins s σ H x y v u Q I rx ry h
 obtain ⟨p,b,ts,m,rfl,rfl,hp,ht,hb,q⟩:=h
 cases rx
 cases ry
 have ht':∀t∈ts,SqT X.K H t.1 (t.2.map V.int):=λt hm=>SqT.of (ht t hm)
 obtain ⟨its,r,pl,hz⟩:=I.tuple (SqT.of (K:=X.K) hp)
 have ei:=dh r
 refine Io (di ts m) pl (λy hy =>?_) ⟨.bl _,H,I,rfl,?_⟩
 ·have hy':y∈its:=by simpa using hy
  rw[ei] at hy'
  obtain ⟨t,hm,rfl⟩:=Bh.mp hy'
  rw[cB I ht' hm]
  exact I.eqT (by show X.A.units+1<cLine;omega) (ht' t hm) (SqT.of hb)
 ·rw[show its.toArray.any (di ts m)=its.any (di ts m) by simp,ei,og I ht' ts (λt h=>h)]
  exact q
theorem fU:∀{its:List AS} {ns:List Int},DL its ns->∃xs:List (Int×Tok),its=xs.map (λp=>CQ p.1 p.2)/\xs.map (·.1)=ns
 | _,_,.nil=>⟨[],rfl,rfl⟩
 | _,_,.cons n t r=>by
  obtain ⟨xs,e1,e2⟩:=fU r
  exact ⟨(n,t) :: xs,by rw[BF, <- e1],by rw[BF,e2]⟩
end
end L2
namespace HT
open PySem PySem.Spec PyProof.Rows
section
variable  {prog:Bi}{w:BQ}{A:Cc}{E:AS->A1->Prop}{s:A1}
theorem gX {t sl:Addr}{items:Array AS}{vl vu:AS}{lo hi:Option Int}{Q:AS->A1->Prop}(ht:IsTup s.heap t items)(hs:s.heap.IsSliceOf sl vl vu .none)(pl:IsPart vl lo)(pu:IsPart vu hi)
  (hw:sIx items.size 0 lo=0/\sIx items.size items.size hi=items.size) (h:Q (.ref t) s):Bv (BJ prog w) A (getItem (.ref t) (.ref sl)) Q E s:=by
 obtain ⟨os,hos,hcs,hds⟩:=id hs
 have hTs:s.TypeIs (.ref sl) "slice" :=⟨os,hos,hcs⟩
 unfold getItem
 try with_reducible refine B8 ?_
 first | refine AO (AV ?_) | skip
 refine AO (Ge ht.typeIs (by decide) ?_)
 refine AO (Ed (name:=Str.ofString "__getitem__") ht.typeIs B3
  (Dx B3 ht.typeIs entry_tuple_getitem ?_ (FQ _ _)))
 show Bv _ _ (Builtin.Tuple.tupleItemsOf (.ref t) >>= _) _ _ s
 refine AO (HH ht ?_)
 refine AO (Dr hTs ?_)
 rw[if_pos (by decide)]
 refine AO (dX hs pl pu ?_)
 show Bv _ _ (if (((sIx items.size 0 lo:Nat):Int) == 0 && (1:Int) == 1 && (sIx items.size items.size hi-sIx items.size 0 lo) == items.size)=true then _ else _) _ _ s
 rw[hw.1,hw.2,if_pos (by simp)]
 unfold Builtin.Tuple.tupleIsExact
 refine AO (AO (Dr ht.typeIs (AV ?_)))
 rw[if_pos (by decide)]
 exact AO (D3 (AV ⟨_,rfl,AV h⟩))
end
end HT
namespace L2
open PySem PySem.Spec PyProof.Rows
section
variable  {X:Cx}
theorem xU:SlR X (λx lo hi H Q=>∃a xs,x = .ref a/\SqT X.K H a xs/\((HT.sIx xs.length 0 lo=0/\HT.sIx xs.length xs.length hi=xs.length)->Q (.ref a) H) ∧
  (¬ (HT.sIx xs.length 0 lo=0/\HT.sIx xs.length xs.length hi=xs.length)->∀p,H p=none->Q (.ref p) (upd H p (.tup (fE xs lo hi))))):=by
 intro pins s σ H x v vl vu lo hi sl Q I rx hs pl pu h
 obtain ⟨a,xs,rfl,hx,q1,q2⟩:=h
 by_cases hw:HT.sIx xs.length 0 lo=0/\HT.sIx xs.length xs.length hi=xs.length
 ·cases rx
  obtain ⟨its,r,ht,hz⟩:=I.tuple hx
  have hlen:its.toArray.size=xs.length:=by rw[AX];exact r.length.symm
  refine ⟨"tuple",_,B3.lookup,ht.typeIs,?_⟩
  exact HT.gX ht hs pl pu (by rw[hlen];exact hw) ⟨.ref a,H,I,rfl,q1 hw⟩
 ·exact zq pins s σ H _ v vl vu lo hi sl Q I rx hs pl pu ⟨a,xs,rfl,hx,hw,q2 hw⟩
theorem cI:bK X (.type "range") (λxs H Q=>∃n:Int,xs=[.int n]/\∀a,H a=none->Q (.ref a) (upd H a (.rng 0 n))):=by
 intro pins s σ H xs us Q I r h
 obtain ⟨n,rfl,q⟩:=h
 obtain ⟨u,rfl,⟨t,rfl⟩⟩:=vals1 r
 refine call_range_1 ?_
 exact ⟨.ref s.heap.objs.size,_,I.laid (o :=.rng 0 n) (λb ob q=>AU _ q) (AY _) ⟨_,_,_,Bd _ rfl⟩,rfl,q _ (I.hok.fresh (AY _))⟩
end
section
variable  {prog:Bi}{w:BQ}{A:Cc}{E:AS->A1->Prop}{s:A1}
theorem mD {R:List AS->A1->Prop}{r:Addr}{n:Nat}{t u v:Tok}(hh:A.handled=none)(hr:IsRange s.heap r 0 n 1 t u v)(hn:n<=2 ^ 24)
    (h:∀(h1:Heap) (tk:Nat) (vs:List AS),vs.length=n->(∀(i:Nat) (x:AS),vs[i]? = some x->∃t,x = .int i t)->(∀b o,s.heap.get? b=some o->h1.get? b=some o)->R vs { s with heap:=h1,toks:=tk }) :
    Bv (BJ prog w) A (collect (.ref r)) R E s:=by
  have hlt:r<s.heap.objs.size:=Bc (show s.heap.get? r=some _ from hr)
  unfold collect
  refine AO (Es (BR PySem.F.entry_proto_collect ?_))
  rw[BH PySem.F.plain_proto_collect _]
  show Bv _ A.in1 (newList [] >>= λl=>again (.builtin "list.__iadd__" ⟨[l,.ref r],[]⟩)) _ _ s
  refine AO (B9 ?_)
  refine AV ⟨Ct Gj _,BR PySem.F.entry_list_iadd ?_⟩
  rw[BH Gj _]
  show Bv _ A.in1 (Cz (.ref s.heap.objs.size) (.ref r) (.ref s.heap.objs.size)) _ _ { s with heap:=s.heap.push { cls :=.type "list",data :=.seq ([]:List AS).toArray } }
  have hr1:IsRange (s.heap.push { cls :=.type "list",data :=.seq ([]:List AS).toArray }) r 0 n 1 t u v:=AU _ hr
  have rs:Builtin.Range.rangeSize 0 (n:Int) 1=(n:Int):=by
    rw[HF]
    split <;> lia
  have hlen24:n<=16777216:=hn
  have hS0:(s.heap.push { cls :=.type "list",data :=.seq ([]:List AS).toArray }).get? s.heap.objs.size=some { cls :=.type "list",data :=.seq #[] 0 }:=Bd _ rfl
  refine wpAny_extend_range (A:=A) (R:=λres s'=>match res with
      | .ok (.ret v)=>Bv (BJ prog w) A (match v with | .ref a=>(do match (← load a).data with | .seq xs _=>pure xs.toList | _=>unsupported "internal:collect") | _=>unsupported "internal:collect") R E s'
      | .ok _=>False
      | .error e=>E e s') (s:={ s with heap:=s.heap.push { cls :=.type "list",data :=.seq ([]:List AS).toArray } }) hh hr1 (small_one (by lia) (by lia) (by lia) (by lia)) rs hn s.heap.objs.size (.ref s.heap.objs.size) 0 hS0 λh' tk acc' c' kk hS' hacc =>?_
  show Bv _ A (load s.heap.objs.size >>= _) _ _ { s with heap:=h',toks:=tk }
  refine AO (G4 hS' ?_)
  refine AV (h h' tk acc'.toList (by rw[A5];exact hacc.1) (λi x hx =>?_) λb o e=>kk b o (Bz (Bc e)) (AU _ e))
  rw[A9] at hx
  obtain ⟨t',e⟩:=hacc.2 i x hx
  exact ⟨t',by rw[e];simp⟩
theorem fF (r:Addr)(n:Nat)(t u v:Tok)(hn:n<=1000) :
  Meets (Builtin.«tuple.__new__» ⟨[.type "tuple",.ref r],[]⟩)
   (λA R s=>A.handled=none/\IsRange s.heap r 0 n 1 t u v/\∀(h':Heap) (tk:Nat) (vs:List AS),vs.length=n->(∀(i:Nat) (x:AS),vs[i]? = some x->∃t,x = .int i t)->(∀b o',s.heap.get? b=some o'->h'.get? b=some o')->R (.ok (.ret (.ref h'.objs.size))) { s with heap:=h'.push { cls :=.type "tuple",data :=.seq vs.toArray },toks:=tk }) :=
 .of_wp λprog w A R s h=>by
  obtain ⟨hp,g,d,tk,os⟩:=s;obtain ⟨hh,ht,h⟩:=h
  have hsub:=sub_tuple_self
  have hinit:=init_tuple_lookup
  have hmh:=madeHere_tuple
  have hT:Shared.TypeIs ⟨hp,g,d,tk,os⟩ (.ref r) "range" :=⟨_,ht,rfl⟩
  wp_walk using Dr hT,mD (by simpa using hh) ht (by lia)
  intro h' tk' vs lv hv hk
  show Bv _ _ (Builtin.Tuple.tupleExact vs.toArray >>= λv=>ret v) _ _ _
  unfold Builtin.Tuple.tupleExact
  refine AO (B9 ?_ (by show vs.toArray.size<=Ba;rw[AX,lv];exact small hn))
  exact AV ⟨_,rfl,h h' tk' vs lv hv hk⟩
end
section
variable  {X:Cx}
theorem kY:∀{vs:List AS},(∀(i:Nat) (x:AS),vs[i]? = some x->∃t,x=CQ i t)->Vals ((Bw vs.length).map λi=>V.int (i:Nat)) vs:=by
 suffices h:∀(vs:List AS) (k:Nat),(∀(i:Nat) (x:AS),vs[i]? = some x->∃t,x=CQ ((i+k:Nat):Int) t)->Vals ((List.range' k vs.length).map λi=>V.int (i:Nat)) vs by
  intro vs hv
  have:=h vs 0 hv
  rw[List.range_eq_range']
  exact this
 intro vs
 induction vs with
 | nil=>intro k _;exact .nil
 | cons x vs ih =>
  intro k hv
  rw[BP,Gs,BF]
  refine .cons ?_ (ih (k+1) λi y hy =>?_)
  ·obtain ⟨t,e⟩:=hv 0 x rfl
   exact ⟨t,by rw[e,DN]⟩
  ·obtain ⟨t,e⟩:=hv (i+1) y (by rw[DB];exact hy)
   exact ⟨t,by rw[e,show i+1+k=i+(k+1) by lia]⟩
theorem pN (hh:X.A.handled=none):bK X (.type "tuple") (λxs H Q=>∃(a:Addr) (n:Nat),xs=[.ref a]/\H a=some (.rng 0 n)/\n<=1000/\∀l,H l=none->Q (.ref l) (upd H l (.tup ((Bw n).map λi=>V.int (i:Nat))))):=by
 intro pins s σ H xs us Q I r h
 obtain ⟨a,n,rfl,ha,hn,q⟩:=h
 obtain ⟨u,rfl,ru⟩:=vals1 r
 cases (show u=Bl a from ru)
 obtain ⟨t,u,v,e⟩:=(show aZ X.prog X.w H s.heap a (.rng 0 n) from I.hok a _ ha)
 refine callType_new PySem.F.called_tuple (by decide) (PySem.F.typeCall_tuple_1 _) (PySem.F.newCall_tuple_1 _) (λobj=>PySem.F.args_object_init_2 obj _) PySem.F.entry_tuple_new
  (fF a n t u v hn) ⟨by simpa using hh,e,λh' tk vs lv hv k=>⟨⟨_,Bd _ rfl,rfl⟩,?_⟩⟩
 have I1:Inv X pins σ H { s with heap:=h',toks:=tk }:=I.kept k
 have rv:=kY hv
 rw[lv] at rv
 exact ⟨.ref h'.objs.size,_,I1.laid (o :=.tup ((Bw n).map λi=>V.int (i:Nat))) (λb ob q=>AU _ q) (AY _) ⟨by rw[AN,Dm];exact small hn,vs,rv,cV.new _ _⟩,rfl,q _ (I1.hok.fresh (AY _))⟩
end
open PySem PySem.Spec PyProof.Rows
section
variable  {κ:Type}[DecidableEq κ]
def cJ (kvs:List (κ×V))(k:κ):Option V:=(kvs.find? λkv=>decide (kv.1=k)).map (·.2)
def putK (kvs:List (κ×V))(k:κ)(v:V):List (κ×V) :=
 if (kvs.any λkv=>decide (kv.1=k))=true then kvs.map (λkv=>if kv.1=k then (kv.1,v) else kv) else kvs++[(k,v)]
theorem fV {p:κ×V}{r:List (κ×V)}{k:κ}(e:p.1=k):cJ (p :: r) k=some p.2:=by simp[cJ,Ej,e]
theorem fW {p:κ×V}{r:List (κ×V)}{k:κ}(e:¬ p.1=k):cJ (p :: r) k=cJ r k:=by simp[cJ,Ej,e]
theorem kZ (k:κ):∀kvs:List (κ×V),(kvs.any λkv=>decide (kv.1=k))=(cJ kvs k).isSome
 | []=>rfl
 | p :: r=>by
  rw[Ek]
  by_cases e:p.1=k
  ·simp only[fV e,decide_eq_true e,Bool.true_or,Option.isSome_some]
  ·rw[fW e,decide_eq_false e,HC];exact kZ k r
theorem fX (kvs:List (κ×V))(k:κ)(v:V):(putK kvs k v).length<=kvs.length+1:=by
 unfold putK
 split
 ·rw[AN];lia
 ·rw[AR,BP,EV];lia
theorem pO {kvs:List (κ×V)}{k:κ}(v:V)(h:cJ kvs k=none):putK kvs k v=kvs++[(k,v)]:=by
 unfold putK
 rw[kZ,h]
 exact if_neg (by decide)
theorem kz.jy {o:Option V}{u:Option AS}(r:kz o u):o.isSome=u.isSome:=by
 cases o with
 | none=>cases u with
  | none=>rfl
  | some _=>exact (show False from r).elim
 | some _=>cases u with
  | none=>exact (show False from r).elim
  | some _=>rfl
theorem KV.val {kvs:List (κ×V)}{vs:List (κ×AS)}(r:KV kvs vs)(k:κ):kz (cJ kvs k) (valueAt vs k):=by
 unfold KV at r
 induction r with
 | nil=>exact True.intro
 | @cons p q ps qs h t ih =>
  obtain ⟨h1,h2⟩:=h
  by_cases e:p.1=k
  ·have e':q.1=k:=h1.symm.trans e
   have b:valueAt (q :: qs) k=some q.2:=by simp[valueAt,Ej,e']
   rw[fV e,b];exact h2
  ·have e':¬ q.1=k:=λz=>e (h1.trans z)
   have b:valueAt (q :: qs) k=valueAt qs k:=by simp[valueAt,Ej,e']
   rw[fW e,b];exact ih
theorem KV.any {kvs:List (κ×V)}{vs:List (κ×AS)}(r:KV kvs vs)(k:κ):(kvs.any λkv=>decide (kv.1=k))=vs.any λkv=>decide (kv.1=k):=by
 unfold KV at r
 induction r with
 | nil=>rfl
 | cons h t ih=>rw[Ek,Ek,ih,h.1]
theorem KV.zO {kvs:List (κ×V)}{vs:List (κ×AS)}(r:KV kvs vs)(k:κ){y:V}{u:AS}(ry:RelV y u) :
  KV (kvs.map λkv=>if kv.1=k then (kv.1,y) else kv) (vs.map λkv=>if kv.1=k then (kv.1,u) else kv):=by
 unfold KV at r ⊢
 induction r with
 | nil=>exact .nil
 | @cons p q ps qs h t ih =>
  rw[BF,BF]
  refine .cons ?_ ih
  obtain ⟨h1,h2⟩:=h
  by_cases e:p.1=k
  ·rw[if_pos e,if_pos (h1.symm.trans e)];exact ⟨h1,ry⟩
  ·rw[if_neg e,if_neg (λz=>e (h1.trans z))];exact ⟨h1,h2⟩
theorem KV.put {kvs:List (κ×V)}{vs:List (κ×AS)}(r:KV kvs vs)(k:κ){y:V}{u:AS}(ry:RelV y u):KV (putK kvs k y) (stored vs k u):=by
 unfold putK stored
 rw[r.any k]
 by_cases e:(vs.any λkv=>decide (kv.1=k))=true
 ·rw[if_pos e,if_pos e];exact r.zO k ry
 ·rw[if_neg e,if_neg e];exact Jl r ⟨rfl,ry⟩
theorem KV.length {kvs:List (κ×V)}{vs:List (κ×AS)}(r:KV kvs vs):kvs.length=vs.length:=D7 r
end
theorem pP {P:Bi}{w:BQ}{k:Key}{u:AS}(r:RelV (kV k) u):(bD P w).is k u=true:=by
 cases k with
 | inl i=>obtain ⟨t,e⟩:=(show ∃t,u=CQ i t from r);subst e;exact oU P w i t
 | inr x=>obtain ⟨t,e⟩:=(show ∃t,u=Value.str x t from r);subst e;exact oV P w x t
theorem nD {P:Bi}{w:BQ}:∀{ks:List Key} {us:List AS},Vals (ks.map kV) us->ItemsAre (bD P w) ks us
 | [],_,r=>by rw[GH] at r;cases r;exact .nil
 | k :: ks,_,r=>by
  rw[BF] at r
  cases r with
  | cons h t=>exact .cons (pP h) (nD t)
abbrev KT (H:Hp):List (List Key×V)->List (List Key×Addr×AS)->Prop:=Paired λp q=>p.1=q.1/\H q.2.1=some (.tup (p.1.map kV))/\RelV p.2 q.2.2
theorem KT.val {H:Hp}{kvs:List (List Key×V)}{xs:List (List Key×Addr×AS)}(r:KT H kvs xs)(k:List Key):kz (cJ kvs k) ((atKey xs k).map (·.2)):=by
 induction r with
 | nil=>exact True.intro
 | @cons p q ps qs h t ih =>
  obtain ⟨h1,_,h2⟩:=h
  by_cases e:p.1=k
  ·have e':q.1=k:=h1.symm.trans e
   have b:atKey (q :: qs) k=some q.2:=by simp[atKey,Ej,e']
   rw[fV e,b];exact h2
  ·have e':¬ q.1=k:=λz=>e (h1.trans z)
   have b:atKey (q :: qs) k=atKey qs k:=by simp[atKey,Ej,e']
   rw[fW e,b];exact ih
theorem KT.zO {H:Hp}{kvs:List (List Key×V)}{xs:List (List Key×Addr×AS)}(r:KT H kvs xs)(k:List Key){y:V}{u:AS}(ry:RelV y u) :
  KT H (kvs.map λkv=>if kv.1=k then (kv.1,y) else kv) (xs.map (putAt k u)):=by
 induction r with
 | nil=>exact .nil
 | @cons p q ps qs h t ih =>
  rw[BF,BF]
  refine .cons ?_ ih
  obtain ⟨h1,h2,h3⟩:=h
  unfold putAt
  by_cases e:p.1=k
  ·rw[if_pos e,if_pos (h1.symm.trans e)];exact ⟨h1,h2,ry⟩
  ·rw[if_neg e,if_neg (λz=>e (h1.trans z))];exact ⟨h1,h2,h3⟩
theorem KT.put {H:Hp}{kvs:List (List Key×V)}{xs:List (List Key×Addr×AS)}(r:KT H kvs xs)(k:List Key){b:Addr}{y:V}{u:AS}(hb:H b=some (.tup (k.map kV)))(ry:RelV y u) :
  KT H (putK kvs k y) (storedH xs k b u):=by
 have e:(kvs.any λkv=>decide (kv.1=k))=(atKey xs k).isSome:=by
  rw[kZ,(r.val k).jy,HY]
 unfold putK storedH
 rw[e]
 by_cases q:(atKey xs k).isSome=true
 ·rw[if_pos q,if_pos q];exact r.zO k ry
 ·rw[if_neg q,if_neg q];exact Jl r ⟨rfl,hb,ry⟩
theorem KT.keeps {H H':Hp}{kvs:List (List Key×V)}{xs:List (List Key×Addr×AS)}(r:KT H kvs xs)(ht:∀b ys,H b=some (.tup ys)->H' b=some (.tup ys)):KT H' kvs xs :=
 Paired.yX r λ_ _ z=>⟨z.1,ht _ _ z.2.1,z.2.2⟩
section
variable  {P:Bi}{w:BQ}{H:Hp}{h:Heap}{a:Addr}
theorem yE {u:HO}(ok:HOk P w H h)(e:Rd H a u):aZ P w H h a u:=e.ok ok
theorem sv {kvs:List (Key×V)}(ok:HOk P w H h)(e:Rd H a (.dK kvs)):kvs.length<=Ba/\(a == sysModules)=false/\∃vs,KV kvs vs/\h.DictOf (bD P w) a vs :=
 show aZ P w H h a (.dK kvs) from yE ok e
theorem v7 {kvs:List (Key×V)}(ok:HOk P w H h)(e:H a=some (.dK kvs)):kvs.length<=Ba/\(a == sysModules)=false/\∃vs,KV kvs vs/\h.DictOf (bD P w) a vs:=sv ok (.inl e)
theorem oh {ks:List Key}(ok:HOk P w H h)(e:H a=some (.tup (ks.map kV))):(tupleKind (bD P w)).is h ks a:=by
 obtain ⟨_,its,r,o,h1,h2,n,h3⟩:=(show aZ P w H h a (.tup (ks.map kV)) from ok a _ e)
 exact ⟨o,its.toArray,n,h1,h2.1,h3,by simpa using nD r⟩
theorem sA {kvs:List (List Key×V)}(ok:HOk P w H h)(e:Rd H a (.dT kvs)):kvs.length<=Ba/\(a == sysModules)=false ∧
  ∃xs,KT H kvs xs/\h.DictOfH (tupleKind (bD P w)) a xs:=by
 obtain ⟨z,y,xs,r,o,es,ep,h1,h2,h3,h4,h5⟩:=(show aZ P w H h a (.dT kvs) from yE ok e)
 refine ⟨z,y,xs,r,o,es,ep,h1,h2,h3,h4,λx hx =>?_,h5⟩
 have all:∀{l:List (List Key×V)} {m:List (List Key×Addr×AS)},KT H l m->∀x∈m,(tupleKind (bD P w)).is h x.1 x.2.1:=by
  intro l m q
  induction q with
  | nil=>intro x hx;exact nomatch hx
  | @cons p q ps qs hq t ih =>
   intro x hx
   rcases Bs.mp hx with e | hx
   ·subst e
    exact oh ok (by rw[<- hq.1];exact hq.2.1)
   ·exact ih x hx
 exact all r x hx
theorem Aw {kvs:List (List Key×V)}(ok:HOk P w H h)(e:H a=some (.dT kvs)):kvs.length<=Ba/\(a == sysModules)=false ∧
  ∃xs,KT H kvs xs/\h.DictOfH (tupleKind (bD P w)) a xs:=sA ok (.inl e)
end
def j5 (H:Hp)(a:Addr)(y:V)(r:Option V):Prop :=
 (∃kvs k,Rd H a (.dK kvs)/\y=kV k/\r=cJ kvs k)\/∃kvs k b,Rd H a (.dT kvs)/\y = .ref b/\H b=some (.tup (k.map kV))/\r=cJ kvs k
def qS (H:Hp)(a:Addr)(y v:V)(H':Hp):Prop :=
 (∃kvs k,H a=some (.dK kvs)/\y=kV k/\kvs.length<Ba/\H'=upd H a (.dK (putK kvs k v))) ∨
 ∃kvs k b,H a=some (.dT kvs)/\y = .ref b/\H b=some (.tup (k.map kV))/\kvs.length<Ba/\H'=upd H a (.dT (putK kvs k v))
theorem j5.k {H:Hp}{a:Addr}{kvs:List (Key×V)}{k:Key}(e:H a=some (.dK kvs)):j5 H a (kV k) (cJ kvs k) :=.inl ⟨kvs,k,.inl e,rfl,rfl⟩
theorem qS.k {H:Hp}{a:Addr}{kvs:List (Key×V)}{k:Key}{v:V}(e:H a=some (.dK kvs))(hl:kvs.length<Ba):qS H a (kV k) v (upd H a (.dK (putK kvs k v))) :=.inl ⟨kvs,k,e,rfl,hl,rfl⟩
section
variable  {X:Cx}{pins:List (Addr×Obj)}{σ:St}{H:Hp}{s:A1}{a:Addr}{y v:V}{u r:AS}{o:Option V}{A:Cc}{E:AS->A1->Prop}
theorem Inv.big (I:Inv X pins σ H s):sysModules<s.heap.objs.size:=by
 have h:Cf<s.heap.objs.size:=(I.mod.glob.keeps I.bk).lt
 exact Nat.lt_trans (by decide) h
theorem uJ {Q:AS->A1->Prop}(hu:A.units+1<cLine)(I:Inv X pins σ H s)(g:j5 H a y (some v))(ry:RelV y u)(h:∀w' s',Inv X pins σ H s'->RelV v w'->Q w' s') :
  Bv (BJ X.prog X.w) A (getItem (.ref a) u) Q E s:=by
 rcases g with ⟨kvs,k,e,ey,l⟩ | ⟨kvs,k,b,e,ey,eb,l⟩
 ·subst ey
  obtain ⟨z,hd,vs,rel,dd⟩:=sv I.hok e
  obtain ⟨w',hw,rw'⟩:=kz.some_of (v:=v) (o:=valueAt vs k) (by rw[l];exact rel.val k)
  exact wpAny_getItem_of (pP ry) dd.mapOf hw (h w' _ (I.tok _) rw')
 ·subst ey
  cases (show u=Bl b from ry)
  obtain ⟨z,hd,xs,rel,dd⟩:=sA I.hok e
  obtain ⟨w',hw,rw'⟩:=kz.some_of (v:=v) (o:=(atKey xs k).map (·.2)) (by rw[l];exact rel.val k)
  obtain ⟨p,hp,hp2⟩:=GB.mp hw
  refine wpAny_getItem_heap (FT hu) (oh I.hok eb) dd hp ?_
  rw[hp2]
  exact h w' _ (I.tok _) rw'
theorem xV {Q:AS->A1->Prop}(hu:A.units+1<cLine)(I:Inv X pins σ H s)(g:j5 H a y o)(ry:RelV y u)(h:∀s',Inv X pins σ H s'->Q (.bool (!o.isSome)) s') :
  Bv (BJ X.prog X.w) A (CP .NotIn u (.ref a)) Q E s:=by
 rcases g with ⟨kvs,k,e,ey,l⟩ | ⟨kvs,k,b,e,ey,eb,l⟩
 ·subst ey
  obtain ⟨z,hd,vs,rel,dd⟩:=sv I.hok e
  refine wpAny_notIn_of (pP ry) hd dd.mapOf ?_
  rw[<- (rel.val k).jy, <- l]
  exact h _ (I.tok _)
 ·subst ey
  cases (show u=Bl b from ry)
  obtain ⟨z,hd,xs,rel,dd⟩:=sA I.hok e
  refine wpAny_notIn_heap (FT hu) (oh I.hok eb) hd dd ?_
  have q:=(rel.val k).jy
  rw[HY] at q
  rw[<- q, <- l]
  exact h _ (I.tok _)
theorem oi {h':Heap}{t':Nat}{ob:HO}(I:Inv X pins σ H s)(mu:Mut (H a))(hs:Heap.SameBut a s.heap h')(he:∃q,h'.get? a=some q)(new:aZ X.prog X.w (upd H a ob) h' a ob) :
  Inv X pins σ (upd H a ob) { s with heap:=h',toks:=t' } :=
 I.write (x:=a) (e:=a) mu (.inl rfl) (λb q hb z=>(hs.2 b hb).trans z) he new
theorem v8 {P:Bi}{w:BQ}{H':Hp}{h':Heap}{kvs:List (Key×V)}{vs:List (Key×AS)}(z:kvs.length<=Ba)(hd:(a == sysModules)=false)(rel:KV kvs vs)(dd:h'.DictOf (bD P w) a vs) :
  aZ P w H' h' a (.dK kvs):=⟨z,hd,vs,rel,dd⟩
theorem uK {H':Hp}{Q:Unit->A1->Prop}(hu:A.units+1<cLine)(I:Inv X pins σ H s)(g:qS H a y v H')(ry:RelV y u)(rv:RelV v r)(h:∀s',Inv X pins σ H' s'->Q () s') :
  Bv (BJ X.prog X.w) A (setItem (.ref a) u r) Q E s:=by
 rcases g with ⟨kvs,k,e,ey,l,eH⟩ | ⟨kvs,k,b,e,ey,eb,l,eH⟩
 ·subst ey eH
  obtain ⟨z,hd,vs,rel,dd⟩:=v7 I.hok e
  have hz:vs.length<=Ba:=by rw[<- rel.length];exact z
  have hl:(putK kvs k v).length<=Ba:=by have:=fX kvs k v;lia
  refine wpAny_setItem_pairs (hsz:=hz) (pP ry) dd λh' dd' hs=>h _ ?_
  have he:∃q,h'.get? a=some q:=let ⟨q,_,_,hq,_⟩:=dd';⟨q,hq⟩
  exact oi I (by rw[e];exact True.intro) hs he (v8 hl hd (rel.put k rv) dd')
 ·subst ey eH
  cases (show u=Bl b from ry)
  obtain ⟨z,hd,xs,rel,dd⟩:=Aw I.hok e
  have hz:xs.length<=Ba:=by rw[<- D7 rel];exact z
  have hl:(putK kvs k v).length<=Ba:=by have:=fX kvs k v;lia
  refine wpAny_setItem_heap (hsz:=hz) (FT hu) (oh I.hok eb) dd λh' dd' hs=>h _ ?_
  obtain ⟨q,es,ep,hq,h2,h3,h4,_,h5⟩:=dd'
  refine oi I (by rw[e];exact True.intro) hs ⟨q,hq⟩ ⟨hl,hd,_,(rel.put k eb rv).keeps λc ys ec =>?_,q,es,ep,hq,h2,h3,h4,h5⟩
  rw[aj (iA ec e (λz=>nomatch z))]
  exact ec
end
section
variable  {X:Cx}{pins:List (Addr×Obj)}{σ:St}{H:Hp}{s:A1}{a:Addr}{kvs:List (Key×V)}{k:Key}{u:AS}{A:Cc}{E:AS->A1->Prop}
end
def Ax (i:Expr):Prop:=∀ov iv,subscripted i false ov iv=operate [ov,iv] (getItem ov iv)
theorem xW {prog:Bi}{w:BQ}{A:Cc}{E:AS->A1->Prop}{s:A1}{env:Env}{value slice:Expr}{pos:Pos}{T id:String}{Q:AS->A1->Prop}
  (hl:typeLookup (.type T) "__getitem__" = pure (some (.builtin id))) (hs:Ax slice)
  (h:Bv (BJ prog w) A (eval value env) (λo s₁=>Bv (BJ prog w) A (eval slice env) (λi s₂=>s₂.TypeIs o T/\Bv (BJ prog w) A (getItem o i) Q E s₂) E s₁) E s) :
  Bv (BJ prog w) A (eval (.Subscript value slice pos) env) Q E s:=by
 refine Subscript_ (DF h (λo s₁ h₁=>DF h₁ (λi s₂ h₂ =>?_) λ_ _ x=>x) λ_ _ x=>x)
 obtain ⟨hT,h₂⟩:=h₂
 unfold subscriptTail
 refine AO ?_
 rw[getitemInPython_of_ne hT.not_modules]
 refine AO (FG hT hl ?_)
 have fin:Bv (BJ prog w) A (subscripted slice false o i) (λr s₃=>Bv (BJ prog w) A (letTemporaryGo value o r >>= λ_=>pure r) Q E s₃) E s₂:=by
  rw[hs o i]
  exact wpAny_operating (DF h₂ (λr s₃ h₃=>AO (wpAny_letTemporaryGo (AV h₃))) λ_ _ x=>x)
 first
  | exact AV (AO fin)
  | exact AO (AV (AO fin))
  | exact AO fin
theorem pQ {X:Cx}{pins:List (Addr×Obj)}{σ:St}{H:Hp}{s:A1}{a:Addr}{y:V}{o:Option V}(I:Inv X pins σ H s)(g:j5 H a y o):s.TypeIs (.ref a) "dict" := by
 rcases g with ⟨kvs,k,e,_,_⟩ | ⟨kvs,k,b,e,_,_,_⟩
 ·obtain ⟨_,_,vs,_,dd⟩:=sv I.hok e
  exact dd.typeIs
 ·obtain ⟨_,_,xs,_,dd⟩:=sA I.hok e
  exact dd.typeIs
def Ay (td ty:TE):TE:=λσ H Q=>td σ H λx H1=>ty σ H1 λy H2=>∃a v,x = .ref a/\j5 H2 a y (some v)/\Q v H2
def xX (ty td:TE):TE:=λσ H Q=>ty σ H λy H1=>td σ H1 λx H2=>∃a o,x = .ref a/\j5 H2 a y o/\Q (.bl (!o.isSome)) H2
def Az (td ty tv:TE):TS:=λD σ H=>tv σ H λv H1=>td σ H1 λx H2=>ty σ H2 λy H3=>∃a H4,x = .ref a/\qS H3 a y v H4/\D.nx σ H4
section
variable  {X:Cx}{o i e value:Expr}{pos pos' tpos:Pos}{td ty tv:TE}
theorem xY (hu:X.A.units+1<cLine)(ho:PE X o td)(hi:PE X i ty)(hs:Ax i):PE X (.Subscript o i pos) (Ay td ty):=by
 intro pins s σ H Q I h
 refine xW PySem.F.slot_dict_getitem.lookup hs (thn (ho pins s σ H _ I h) λu s1 ⟨x,H1,I1,rx,q1⟩=>thn (hi pins s1 σ H1 _ I1 q1) λiv s2 ⟨y,H2,I2,ry,a,v,ex,g,q2⟩ =>?_)
 subst ex
 obtain rfl:u=Bl a:=rx
 exact ⟨pQ I2 g,uJ hu I2 g ry λw' s3 I3 rw'=>⟨v,H2,I3,rw',q2⟩⟩
theorem gJ (hu:X.A.units+1<cLine)(hi:PE X i ty)(ho:PE X o td):PC X .NotIn i o (xX ty td):=by
 intro pins s σ H Q I h
 refine thn (hi pins s σ H _ I h) λiv s1 ⟨y,H1,I1,ry,q1⟩=>thn (ho pins s1 σ H1 _ I1 q1) λu s2 ⟨x,H2,I2,rx,a,ov,ex,g,q2⟩ =>?_
 subst ex
 obtain rfl:u=Bl a:=rx
 exact xV hu I2 g ry λs3 I3=>⟨.bl (!ov.isSome),H2,I3,rfl,q2⟩
theorem sC (hu:X.A.units+1<cLine)(ho:PE X o td)(hi:PE X i ty)(hv:PE X value tv)(hs:swapsWith value (some (.Subscript o i pos')) pos.line X.env=pure false) :
  PS X (.Assign [.Subscript o i pos'] value pos) (Az td ty tv):=by
 intro pins s σ H D I h
 refine wpAny_Assign_Subscript (thn (hv pins s σ H _ I h) λr s1 ⟨v,H1,I1,rv,q1⟩=>thn (ho pins s1 σ H1 _ I1 q1) λu s2 ⟨x,H2,I2,rx,q2⟩=>thn (hi pins s2 σ H2 _ I2 q2) λiv s3 ⟨y,H3,I3,ry,a,H4,ex,g,q3⟩ =>?_) hs
 subst ex
 obtain rfl:u=Bl a:=rx
 exact uK hu I3 g ry rv λs4 I4=>⟨σ,H4,I4,q3⟩
end
theorem v9 {P:Bi}{w:BQ}{H:Hp}(h:Heap)(hb:sysModules<h.objs.size):aZ P w H (h.push { cls :=.type "dict",data :=.dict #[] }) h.objs.size (.dK []) :=
 ⟨BX _,beq_eq_false_iff_ne.mpr (C7 (Bz hb)),[],.nil,Heap.DictOf.new h⟩
section
variable  {X:Cx}{pos:Pos}
end
def qT:List (TE×TE)->St->Hp->(List (V×V)->Hp->Prop)->Prop
 | [],_,H,Q=>Q [] H
 | (tk,tv) :: r,σ,H,Q=>tk σ H λx H1=>tv σ H1 λy H2=>qT r σ H2 λps H3=>Q ((x,y) :: ps) H3
abbrev VV:List (V×V)->List (AS×AS)->Prop:=Paired λp q=>RelV p.1 q.1/\RelV p.2 q.2
def PPs (X:Cx)(pos:Pos)(keys:List (Option Expr))(values:List Expr)(trs:List (TE×TE)):Prop :=
 ∀(pins:List (Addr×Obj)) (s:A1) (σ:St) (H:Hp) (Q:List (V×V)->Hp->Prop),Inv X pins σ H s->qT trs σ H Q →
  Bv (BJ X.prog X.w) X.A (evalPairs (pairTrees keys values X.env pos)) (λvs s'=>∃ps H',Inv X pins σ H' s'/\VV ps vs/\Q ps H') X.xe s
theorem sD {X:Cx}{pos:Pos}:PPs X pos [] [] []:=λpins s σ H Q I h=>pairTrees_nil_walk ⟨[],H,I,.nil,h⟩
theorem pU {X:Cx}{pos:Pos}{k v:Expr}{ks:List (Option Expr)}{vs:List Expr}{tk tv:TE}{trs:List (TE×TE)}(hk:PE X k tk)(hv:PE X v tv)(hr:PPs X pos ks vs trs) :
  PPs X pos (some k :: ks) (v :: vs) ((tk,tv) :: trs):=λpins s σ H Q I h =>
 pairTrees_cons_walk (thn (hk pins s σ H _ I h) λu s1 ⟨x,H1,I1,rx,q1⟩=>thn (hv pins s1 σ H1 _ I1 q1) λw2 s2 ⟨y,H2,I2,ry,q2⟩ =>
  thn (hr pins s2 σ H2 _ I2 q2) λws s3 ⟨ps,H3,I3,rel,q3⟩=>⟨(x,y) :: ps,H3,I3,.cons ⟨rx,ry⟩ rel,q3⟩)
def cO (kvs more:List (Key×V)):List (Key×V):=more.foldl (λacc kv=>putK acc kv.1 kv.2) kvs
theorem KV.merge:∀{more:List (Key×V)} {rs:List (Key×AS)} {kvs:List (Key×V)} {vs:List (Key×AS)},KV more rs->KV kvs vs->KV (cO kvs more) (merged vs rs):=by
 intro more rs kvs vs r
 unfold KV at r
 induction r generalizing kvs vs with
 | nil=>intro q;exact q
 | @cons p q ps qs h t ih =>
  intro r0
  have e:KV (putK kvs p.1 p.2) (stored vs q.1 q.2):=by
   have:=r0.put p.1 h.2
   rw[<- h.1];exact this
  exact ih e
theorem hJ:∀(more kvs:List (Key×V)),(cO kvs more).length<=kvs.length+more.length
 | [],kvs=>by show kvs.length<=kvs.length+0;lia
 | p :: r,kvs=>by
  have h1:=hJ r (putK kvs p.1 p.2)
  have h2:=fX kvs p.1 p.2
  show (cO (putK kvs p.1 p.2) r).length<=_
  rw[BP];lia
theorem k7 {P:Bi}{w:BQ}:∀{kvs:List (Key×V)} {ws:List (AS×AS)},VV (kvs.map λkv=>(kV kv.1,kv.2)) ws->∃rs,Carries (bD P w) ws rs/\KV kvs rs
 | [],_,r=>by rw[GH] at r;cases r;exact ⟨[],True.intro,.nil⟩
 | p :: kvs,_,r=>by
  rw[BF] at r
  cases r with
  | @cons a b as bs h t =>
   obtain ⟨rs,c,q⟩:=k7 (P:=P) (w:=w) t
   obtain ⟨b1,b2⟩:=b
   exact ⟨(p.1,b2) :: rs,⟨pP h.1,rfl,c⟩,.cons ⟨rfl,h.2⟩ q⟩
def AA (trs:List (TE×TE)):TE:=λσ H Q=>∀p,H p=none->qT trs σ (upd H p (.dK [])) λps H2=>H2 p=some (.dK [])/\∃kvs:List (Key×V),ps=kvs.map (λkv=>(kV kv.1,kv.2))/\kvs.length<=15/\Q (.ref p) (upd H2 p (.dK (cO [] kvs)))
theorem sE {X:Cx}{pos:Pos}{keys:List (Option Expr)}{values:List Expr}{trs:List (TE×TE)}(h:PPs X pos keys values trs)(hall:keys.all (·.isSome)=true)(hl:keys.length=values.length)(h0:keys≠[])
  (h15:keys.length<=15):PE X (.Dict keys values pos) (AA trs):=by
 intro pins s σ H Q I q
 have hn:=I.hok.fresh (AY s.heap.objs.size)
 have I1:=I.laid (a:=s.heap.objs.size) (o :=.dK []) (h':=s.heap.push { cls :=.type "dict",data :=.dict #[] }) (t':=s.toks) (λ_ _ q=>AU _ q) (AY _) (v9 s.heap I.big)
 refine wpAny_Dict_walk (knd:=bD X.prog X.w) hall hl h0 h15 (thn (h pins _ σ _ _ I1 (q _ hn)) λws s2 ⟨ps,H2,I2,rel,e,kvs,ep,lk,q2⟩ =>?_)
 subst ep
 obtain ⟨rs,c,rk⟩:=k7 (P:=X.prog) (w:=X.w) rel
 obtain ⟨z,hd,vs0,r0,dd⟩:=v7 I2.hok e
 cases r0
 refine ⟨rs,c,dd,λh' dd' hs=>⟨.ref s.heap.objs.size,_,?_,rfl,q2⟩⟩
 have hz:(cO [] kvs).length<=Ba:=by
  have h1:=hJ kvs []
  rw[EV] at h1
  rw[EB];lia
 have he:∃q,h'.get? s.heap.objs.size=some q:=let ⟨q,_,_,hq,_⟩:=dd';⟨q,hq⟩
 exact oi I2 (by rw[e];exact True.intro) hs he (v8 hz hd (rk.merge .nil) dd')
structure M1 (X:Cx)(o:Expr)(m:Str)(apos:Pos)(e:Expr)(cpos:Pos):Prop where
 base:attributeBase o m X.env (eval o X.env)=eval o X.env
 few:((E4 cpos (Cm [e] X.env)).all (λx => !x.1) && (backToKw cpos (keywordEach [] X.env)).all (λx=>x.1.isSome)
  && decide (([e]:List Expr).length+([]:List Keyword).length+(if ([]:List Keyword).isEmpty then 0 else 1)<30))=true
 line:(apos.endLine == cpos.line)=true
 trees:E4 cpos (Cm [e] X.env)=[(false,eval e X.env)]
section
variable  {X:Cx}{pins:List (Addr×Obj)}{σ:St}{H:Hp}{s:A1}{a:Addr}{y d:V}{u r:AS}{o:Option V}{A:Cc}{E:AS->A1->Prop}
end
section
variable  {X:Cx}{o e f:Expr}{apos cpos:Pos}{td ty tx:TE}
end
section
variable  {X:Cx}{pins:List (Addr×Obj)}{σ:St}{H:Hp}{s:A1}{a:Addr}{kvs:List (Key×V)}{A:Cc}{E:AS->A1->Prop}
end
section
variable  {X:Cx}{pins:List (Addr×Obj)}{σ:St}{H:Hp}{s:A1}{a:Addr}{y:V}{u:AS}{A:Cc}{E:AS->A1->Prop}
end
open PySem PySem.Spec PyProof.Rows
section
variable  {X:Cx}
end
section
variable  {κ:Type}[DecidableEq κ]
end
end L2
namespace SDct
open PySem PyProof.Rows Srt
section
variable  {prog:Bi}{w:BQ}{K:Type}[DecidableEq K]{knd:KeyKind prog w K}{A:Cc}{E:AS->A1->Prop}{s:A1}
theorem oj {d:Addr}{kvs:List (K×AS)}{ep:Nat}{R:List AS->A1->Prop}(hh:A.handled=none)(hd:(d == sysModules)=false)(hm:s.heap.DictAt knd d kvs ep)(hz:kvs.length<=Ba)
  (h:∀h1 tk vs,vs.length=kvs.length->(∀(i:Nat) v,vs[i]? = some v->∃k x,kvs[i]? = some (k,x)/\knd.is k v=true)->(∀b o,s.heap.get? b=some o->h1.get? b=some o)->s.heap.objs.size<=h1.objs.size->R vs { s with heap:=h1,toks:=tk }) :
  Bv (BJ prog w) A (collect (.ref d)) R E s:=by
 have hlt:=hm.lt_size
 unfold collect
 refine AO (Es (BR GR ?_))
 rw[BH GS _]
 show Bv _ A.in1 (newList [] >>= λl=>again (.builtin "list.__iadd__" ⟨[l,.ref d],[]⟩)) _ _ s
 refine AO (B9 ?_)
 refine AV ⟨Ct Fc _,BR HX ?_⟩
 rw[BH Fc _]
 show Bv _ A.in1 (Cz (.ref s.heap.objs.size) (.ref d) (.ref s.heap.objs.size)) _ _ _
 unfold Cz
 have hSa:s.heap.objs.size≠d:=D5 hlt
 have z1:(s.heap.push { cls :=.type "list",data :=.seq ([]:List AS).toArray }).objs.size=s.heap.objs.size+1:=DC _ _
 have hm1:=hm.push { cls :=.type "list",data :=.seq ([]:List AS).toArray }
 have hT1:Shared.TypeIs { s with heap:=s.heap.push { cls :=.type "list",data :=.seq ([]:List AS).toArray } } (.ref d) "dict" := hm1.dictOf.typeIs
 refine AO (Dr hT1 ?_)
 have h1:D4 (.ref s.heap.objs.size) (.ref d)=false:=by simp[D4,hSa]
 have h2:(DH "dict" == DH "list")=false:=by decide
 have h3:(DH "dict" == DH "tuple")=false:=by decide
 simp only[h1,h2,h3,Jf,Bk,if_false]
 refine AO (wpAny_pyIter_dict hd hm1 ?_)
 show Bv _ A.in1 (Fg [.ref (s.heap.push { cls :=.type "list",data :=.seq ([]:List AS).toArray }).objs.size] (DJ (.ref d)) >>= _) _ _ { s with heap:=(s.heap.push { cls :=.type "list",data :=.seq ([]:List AS).toArray }).push { cls :=.type "dict_keyiterator",data :=.fields #[.ref d,.int 0 0,.int kvs.length 0,.int ep 0] } }
 rw[z1]
 generalize hH:(s.heap.push { cls :=.type "list",data :=.seq ([]:List AS).toArray }).push { cls :=.type "dict_keyiterator",data :=.fields #[.ref d,.int 0 0,.int kvs.length 0,.int ep 0] }=H
 have kH:∀b o,(s.heap.push { cls :=.type "list",data :=.seq ([]:List AS).toArray }).get? b=some o->H.get? b=some o:=λb o e=>by rw[<- hH];exact AU _ e
 have hit:H.IsKeyIter (s.heap.objs.size+1) d 0 kvs.length ep:=by
  refine ⟨{ cls :=.type "dict_keyiterator",data :=.fields #[.ref d,.int 0 0,.int kvs.length 0,.int ep 0] },?_,rfl,rfl⟩
  rw[<- hH, <- z1]
  exact Bd _ rfl
 have hm2:H.DictAt knd d kvs ep:=hm1.keep kH
 have hT2:Shared.TypeIs { s with heap:=H } (.ref d) "dict" := hm2.dictOf.typeIs
 refine AO (B8 ?_)
 unfold DJ
 refine AO (FG hT2 F.slot_dict_len.lookup ?_)
 dsimp only
 rw[show splitId "dict.__len__" = some ("dict", "__len__") by kernel_rfl]
 dsimp only
 refine AO (Gx hT2 (show isSubtype (.type "dict") (.type "dict")=pure true by rw[F2];kernel_rfl) ?_)
 simp only[CL,Bk,if_false]
 show Bv _ _ (typeOf (.ref d) >>= _) _ _ _
 refine AO (Dr hT2 ?_)
 refine AV ?_
 show Bv _ A.in1 (rule "list.extend.makes-room" >>= λ_=>Builtin.List.listTouch (.ref s.heap.objs.size) >>= λ_ =>
  again (.builtin "list.extend.loop" ⟨[.ref s.heap.objs.size,.ref (s.heap.objs.size+1),.ref s.heap.objs.size],[]⟩)) _ _ _
 refine AO (D3 ?_)
 have hS₁:H.get? s.heap.objs.size=some { cls :=.type "list",data :=.seq ([]:List AS).toArray }:=kH _ _ (Bd _ rfl)
 refine AO ?_
 show Bv _ A.in1 (updateSeq s.heap.objs.size (·.push .none) >>= λ_=>updateSeq s.heap.objs.size (·.pop)) _ _ _
 refine AO (CN (s:={ s with heap:=H }) hS₁ rfl ?_)
 have hS₂:=Ci (CT (·.push DM)) hS₁ rfl
 refine CN hS₂ rfl ?_
 have hS₃:=Ci (CT (·.pop)) hS₂ rfl
 have oth:∀b o,b≠s.heap.objs.size->H.get? b=some o->((H.update s.heap.objs.size (CT (·.push DM))).update s.heap.objs.size (CT (·.pop))).get? b=some o :=
  λb o hb e=>(BB _ _ (C7 hb)).trans ((BB _ _ (C7 hb)).trans e)
 have W:=(Walks.dictKeys (prog:=prog) (w:=w) (knd:=knd) (A:=A.in1) hh (s.heap.objs.size+1) d (Bz (Cy hlt)) kvs ep).toS
 have hSf:s.heap.objs.size∉[s.heap.objs.size+1,d]:=by
  simp only[Bs,Dw,or_false,not_or]
  exact ⟨Bz (CZ _),hSa⟩
 refine AV ⟨Ct Ec _,codeAny_extend_loopS W hz _ hSf _ kvs.length 0 _ _ _ rfl (BX _) ⟨hit.at λo e=>oth _ o (D5 (CZ _)) e,hm2.at' λo e=>oth _ o (C7 hSa) e⟩ hS₃ (ItemsOf.nil _) λs' acc' c' hmv hS' ha =>?_⟩
 obtain ⟨h',g',d',tk',os'⟩:=s'
 have eg:g'=s.gens:=hmv.gens
 have ed:d'=s.drawn:=hmv.drawn
 have eo:os'=s.os:=hmv.os
 subst eg;subst ed;subst eo
 show Bv _ A (load s.heap.objs.size >>= _) _ _ _
 refine AO (G4 hS' ?_)
 refine AV (h h' tk' acc'.toList (by rw[A5];exact ha.1) (λi v hv=>ha.2 i v (by rw[A9] at hv;exact hv)) (λb o e =>?_) (CK (Bc hS')))
 have lt:=Bc e
 refine hmv.heap b o ?_ (oth b o (Bz lt) (kH b o (AU _ e)))
 simp only[Bs,Dw,or_false,not_or]
 exact ⟨Bz lt,Bz (Cy lt)⟩
end
end SDct
namespace L2
open PySem PySem.Spec PyProof.Rows Srt
section
variable  {X:Cx}
theorem sF:∀{kvs:List (Key×V)} {vs:List (Key×AS)},KV kvs vs->vs.map (·.1)=kvs.map (·.1)
 | _,_,.nil=>rfl
 | _,_,.cons h t=>by rw[BF,BF,sF t,h.1]
theorem om (hh:X.A.handled=none):bK X (.builtin "sorted") (λxs H Q=>∃(a:Addr) (kvs:List (Key×V)) (ks:List Int),xs=[.ref a]/\H a=some (.dK kvs)/\kvs.map (·.1)=ks.map Sum.inl/\∀(l:Addr) (out:List Int),H l=none->out.Perm ks->out.Pairwise (· <= ·)->Q (.ref l) (upd H l (.lst (out.map V.int)))):=by
 intro pins s σ H xs us Q I r h
 obtain ⟨a,kvs,ks,rfl,ha,ek,q⟩:=h
 obtain ⟨u,rfl,ru⟩:=vals1 r
 cases (show u=Bl a from ru)
 obtain ⟨z,hd,vs,rel,dd⟩:=v7 I.hok ha
 obtain ⟨ep,dd⟩:=dd.dictAt
 have lv:kvs.length=vs.length:=D7 rel
 have keys:vs.map (·.1)=kvs.map (·.1):=sF rel
 have lk:ks.length=vs.length:=by
  have:=congrArg List.length ek
  rw[AN,AN] at this
  lia
 refine Er IL Ii Ij (Ik _) ?_
 unfold Builtin.«sorted»
 refine AO (m:=checkCount "sorted" 1 1 _) (AV ?_)
 refine AO (SDct.oj (by simpa using hh) hd dd (by lia) λh1 tk ws lw hw k1 z1 =>?_)
 have sh:∀(i:Nat) v,ws[i]? = some v->∃t,ks[i]? = some (intOf v)/\v = .int (intOf v) t:=λi v hv=>by
  obtain ⟨k,x,e1,e2⟩:=hw i v hv
  have e3:(vs.map (·.1))[i]? = some k:=by rw[A4,e1];rfl
  rw[keys,ek,A4] at e3
  cases hk:ks[i]? with
  | none=>rw[hk] at e3;cases e3
  | some n =>
   rw[hk] at e3
   cases e3
   obtain ⟨t,rfl⟩:=E5 (show Value.isInt n v=true from e2)
   exact ⟨t,rfl,rfl⟩
 have si:∀v∈ws,∃i t,v=CQ i t:=λv hv=>by
  obtain ⟨i,hi,e⟩:=Ez hv
  obtain ⟨t,_,e2⟩:=sh i v (by rw[AQ hi,e])
  exact ⟨_,t,e2⟩
 have ew:ws.map intOf=ks:=by
  apply E7
  intro i
  rw[A4]
  cases hv:ws[i]? with
  | some v=>obtain ⟨t,e,_⟩:=sh i v hv;rw[e];rfl
  | none =>
   rw[DR] at hv
   rw[Cr (by lia)]
   rfl
 have hI:=dZ si
 rw[ew] at hI
 have hz':ws.length<=Ba:=by lia
 refine AO (Fy ?_ hz')
 have hoL:(h1.push (seqObj "list" ws.toArray 0)).get? h1.objs.size=some (seqObj "list" ws.toArray 0):=Bd _ rfl
 have kL:∀b o,s.heap.get? b=some o->(h1.push (seqObj "list" ws.toArray 0)).get? b=some o:=λb o e=>AU _ (k1 b o e)
 have C:iM X.prog X.w { s with heap:=h1,toks:=tk } ws qE intOf:=iP hI
 refine AO (B8 (Dx slot_list_sort ⟨_,hoL,rfl⟩ entry_list_sort (dJ (key:=intOf) (O:=qE) hoL hz' (λh2 h6 k6 =>?_) λout pm ps=>⟨_,rfl,?_⟩) (Hd _)))
 ·exact C.ok h2 _ h6 λb o e=>k6 b o (Bz (Bc e)) (AU _ e)
 ·obtain ⟨n,en⟩:=HK (out:=out.toArray) hoL
  have hm:∀v∈out,∃i t,v=CQ i t:=λv hv=>si v (pm.mem_iff.mp hv)
  have hO:=dZ hm
  have pm':(out.map intOf).Perm ks:=by
   have:=pm.map intOf
   rw[ew] at this
   exact this
  have kf:∀b o,s.heap.get? b=some o->(sortedHeap (h1.push (seqObj "list" ws.toArray 0)) h1.objs.size ws out.toArray).get? b=some o:=λb o e=>by
   have lt:=Bm (Bc e) z1
   rw[He (Bz lt) (by rw[Ib];exact Cy lt)]
   exact kL b o e
  have fr:H h1.objs.size=none:=I.hok.fresh z1
  refine AV ⟨_,rfl,.ref h1.objs.size,_,I.laid (t':=tk) (o :=.lst ((out.map intOf).map V.int)) kf z1 ⟨?_,out,n,fg hO,en⟩,rfl,q _ _ fr pm' ?_⟩
  ·rw[AN,pm'.length_eq];lia
  ·refine BW.mpr (ps.imp λ{x y} le =>?_)
   have le':decide (intOf y<intOf x)=false:=le
   have:=of_decide_eq_false le'
   lia
end
open PySem PyProof.Rows
section
variable  {X:Cx}
def xZ (ns ms:List Int)(j:Nat):Bool:=ns.getD j 0 == ms.getD j 0
theorem pV {ns ms:List Int}(h:ns.length=ms.length):((Bw ns.length).all λj=>xZ ns ms j)=decide (ns=ms):=by
 rw[C8,decide_eq_true_iff,CD]
 constructor
 ·intro hh
  refine Eu h λj h1 h2 =>?_
  have:=hh j (Cg.mpr h1)
  unfold xZ at this
  rw[A6,A6,AQ h1,AQ h2] at this
  exact of_decide_eq_true (by simpa using this)
 ·rintro rfl j _
  exact beq_self_eq_true _
theorem intAt {ns:List Int}{us:List AS}(r:Vals (ns.map V.int) us){j:Nat}(h:j<us.toArray.size):∃t,us.toArray[j] = .int (ns.getD j 0) t:=by
 have l:=r.length
 rw[AN] at l
 rw[AX] at h
 have e1:(ns.map V.int)[j]? = some (.int (ns.getD j 0)):=by
  rw[A4,A6,AQ (by lia)]
  rfl
 obtain ⟨u,g1,q1⟩:=r.get e1
 have f1:us.toArray[j]=u:=by simp[AW] at g1;obtain ⟨_,g⟩:=g1;simpa using g
 rw[f1]
 exact q1
theorem sI {k:Nat}(hr:cM k X.A):OpR X (CP .NotEq) (λx y H Q=>∃(a b:Addr) (ns ms:List Int),x = .ref a/\y = .ref b/\SqL X.K H a (ns.map V.int)/\SqL X.K H b (ms.map V.int)/\Q (.bl (!decide (ns=ms))) H):=by
 intro pins s σ H x y v u Q I rx ry h
 obtain ⟨a,b,ns,ms,rfl,rfl,h1,h2,q⟩:=h
 cases (show v=Bl a from rx)
 cases (show u=Bl b from ry)
 obtain ⟨its,r1,⟨⟨c1,d1,da1,sl1⟩,n1,e1,k1,_,k3⟩,_⟩:=I.list h1
 obtain ⟨its2,r2,⟨⟨c2,d2,da2,sl2⟩,n2,e2,g1,_,g3⟩,_⟩:=I.list h2
 simp only at k1 k3 g1 g3
 subst k1 k3 g1 g3
 have l1:=r1.length
 have l2:=r2.length
 rw[AN] at l1 l2
 have hu:=hr.un
 have hu1:X.A.units<cLine:=by lia
 by_cases hl:ns.length=ms.length
 ·refine Ei (op :=.NotEq) ⟨_,e1,rfl⟩ ⟨_,e2,rfl⟩ F.slot_list_ne IG (Iv _ _) (SeqAt.list_neAt a b its.toArray its2.toArray n1 n2 d1 d2 sl1 sl2 (by rw[AX,AX];lia) (xZ ns ms)) ⟨e1,e2,?_,?_⟩ hu1
  ·intro j h1 h2
   obtain ⟨t1,g1⟩:=intAt r1 h1
   obtain ⟨t2,g2⟩:=intAt r2 h2
   rw[g1,g2]
   exact EM _ t1 _ t2
  ·have ez:its.toArray.size=ns.length:=by rw[AX];lia
   rw[ez,pV hl]
   exact ⟨(λz=>nomatch z),⟨.bl _,H,I,rfl,q⟩⟩
 ·have ne:ns≠ms:=λz=>hl (by rw[z])
  rw[decide_eq_false ne] at q
  refine Ei (op :=.NotEq) ⟨_,e1,rfl⟩ ⟨_,e2,rfl⟩ F.slot_list_ne IG (Iv _ _) (SeqAt.list_ne_lengthsAt a b its.toArray its2.toArray n1 n2 d1 d2 sl1 sl2 (by simp;lia)) ⟨e1,e2,?_⟩ hu1
  exact ⟨(λz=>nomatch z),⟨.bl true,H,I,rfl,q⟩⟩
end
end L2
namespace HT
open PySem PySem.Spec PyProof.Rows
section
variable  {prog:Bi}{w:BQ}{A:Cc}{R:Result->A1->Prop}{I:Addr}{fp wr:List Addr}{n:Nat}{P:Nat->AS->Prop}{St:Nat->Heap->Prop}{kw:List (Str×AS)}
end
section
variable  {prog:Bi}{w:BQ}{A:Cc}{E:AS->A1->Prop}{s:A1}{l:Addr}{xs:Array (Int×Tok)}
end
end HT
namespace L2
open PySem PyProof.Rows
section
variable  {X:Cx}{x:Str}{id:String}{e:Expr}{es:List Expr}{kws:List Keyword}{p pos:Pos}{t tk:TA}{ks:List Str}{r:List V->List V->Hp->VK->Prop}
end
open PySem PyProof.Rows
section
variable  {X:Cx}
theorem wa {ns:List Int}{j:Nat}(h:j<ns.length):ns.getD j 0∈ns:=by
 rw[A6,AQ h]
 exact Dh h
theorem wb {ns:List Int}{a:Int}(h:a∈ns):∃j,j<ns.length/\ns.getD j 0=a:=by
 obtain ⟨j,hj,e⟩:=Ez h
 exact ⟨j,hj,by rw[A6,AQ hj];exact e⟩
end
open PySem PyProof.Rows
section
variable  {X:Cx}
def Wd (i:Int):Prop:=i.natAbs<2 ^ 4000
theorem Wd.bits {i:Int}(h:Wd i):Builtin.Int.intBits i<=2 ^ 20:=by
 unfold Builtin.Int.intBits
 split
 ·exact BX _
 ·have:i.natAbs.log2<4000:=by
   rcases EX i.natAbs with h0 | hp
   ·rw[h0];decide
   ·exact (Nat.log2_lt (by lia)).mpr h
  lia
def AB (i j:Int):Prop:=Wd i/\Wd j
theorem oo:OpR X (binaryOp .Mult) (rI AB λi j =>.int (i*j)):=opI λ_ _ _ _ _ _ _ hc q=>mul_int q (IntMulOk.of_bits hc.1.bits hc.2.bits)
end
section
variable  {P:Bi}{w:BQ}{K:A0}{mg:Str->Option AS}{base:Heap}
end
end L2
namespace L2.Rem
open PySem PySem.SeqAt PySem.MeetsSeq
open AutoSeq1 (wpAny_loadPart')
theorem x6 (l:Addr)(items:Array AS)(n:Nat)(x:AS)(e:AS->Bool)(j:Nat)(hj:j<items.size)(hit:e items[j]=true)(k:Nat)(hs1:items.size<=Ba) :
  ∀i:Nat,j-i=k->i<=j->(∀m (hm:m<items.size),i<=m->m<j->e items[m]=false)->Meets (Builtin.«list.remove.loop» ⟨[.ref l,x,Hf i],[]⟩)
   (λA R s=>(s.heap.get? l=some { cls :=.type "list",dict:=none,data :=.seq items n,slots := #[] }/\∀y,y∈items->EqAt A.in1 s y x (e y))/\R (.ok (.ret .none)) { s with heap:=s.heap.update l (CT λxs=>xs.eraseIdxIfInBounds j) }):=by
 induction k with
 | zero =>
  rintro i hk hij hno prog w A R ⟨hp,g,d,tk,os⟩ ⟨⟨hl,he⟩,h⟩
  obtain rfl:i=j:=by lia
  wp_walk using wpAny_loadPart' hl
  rw[show items[((i:Nat):Int).toNat]? = some items[i] by simp[hj]]
  refine AO (he _ (Fb hj) prog w _ _ ?_)
  rw[hit]
  wp_walk using (CN hl rfl (hz:=hs1) (_hz':=BL (size_erased items i) (DW hs1))),wpAny_loadPart' hl
  simpa using h
 | succ k ih =>
  rintro i hk hij hno prog w A R ⟨hp,g,d,tk,os⟩ ⟨⟨hl,he⟩,h⟩
  have lt:i<items.size:=by lia
  wp_walk using wpAny_loadPart' hl
  rw[show items[((i:Nat):Int).toNat]? = some items[i] by simp[lt]]
  refine AO (he _ (Fb lt) prog w _ _ ?_)
  rw[hno i lt (AY _) (by lia)]
  wp_walk
  rw[show ((i:Int)+1)=((i+1:Nat):Int) by push_cast;rfl]
  exact ⟨Ct plain_remove_loop _,BR entry_remove_loop (by
   rw[BH plain_remove_loop _]
   exact ih (i+1) (by lia) (by lia) (λm hm h1 h2=>hno m hm (by lia) h2) prog w A R _ ⟨⟨hl,he⟩,h⟩)⟩
theorem sJ (l:Addr)(items:Array AS)(n:Nat)(x:AS)(e:AS->Bool)(j:Nat)(hj:j<items.size)(hit:e items[j]=true)(hno:∀m (hm:m<items.size),m<j->e items[m]=false)(hs1:items.size<=Ba) :
  Meets (Builtin.«list.remove» ⟨[.ref l,x],[]⟩)
   (λA R s=>(s.heap.get? l=some { cls :=.type "list",dict:=none,data :=.seq items n,slots := #[] }/\∀y,y∈items->EqAt A.in1 s y x (e y))/\R (.ok (.ret .none)) { s with heap:=s.heap.update l (CT λxs=>xs.eraseIdxIfInBounds j) }):=by
 rintro prog w A R ⟨hp,g,d,tk,os⟩ ⟨⟨hl,he⟩,h⟩
 wp_walk using wpAny_loadPart' hl
 exact ⟨Ct plain_remove_loop _,BR entry_remove_loop (by
  rw[BH plain_remove_loop _]
  exact x6 l items n x e j hj hit _ hs1 0 rfl (BX _) (λm hm _ h2=>hno m hm h2) prog w A R _ ⟨⟨hl,he⟩,h⟩)⟩
end L2.Rem
namespace L2
open PySem PySem.Spec PyProof.Rows
section
variable  {X:Cx}
theorem hZ {α:Type}[BEq α][LawfulBEq α]{m:α}:∀{l:List α},m∈l->∃j,l[j]? = some m/\(∀i<j,∀x,l[i]? = some x->x≠m)/\l.erase m=l.eraseIdx j
 | [],h=>by cases h
 | x :: l,h=>by
  by_cases e:x=m
  ·subst e
   exact ⟨0,rfl,λi hi=>by lia,by simp⟩
  ·obtain ⟨j,h1,h2,h3⟩:=hZ (l:=l) (by rcases Bs.mp h with z | z;exact absurd z.symm e;exact z)
   refine ⟨j+1,by simpa using h1,λi hi y hy =>?_,?_⟩
   ·cases i with
    | zero =>
     have:x=y:=by simpa using hy
     rw[<- this];exact e
    | succ i=>exact h2 i (by lia) y (by simpa using hy)
   ·rw[List.erase_cons_tail (by simpa using e),h3]
    rfl
def AD:V->List V->Hp->VK->Prop:=λx vs H Q=>∃(l b:Addr) (ts:List (Addr×List Int)) (m:List Int),x = .ref l/\vs=[.ref b]/\H l=some (.lst (ts.map λt =>.ref t.1))/\(∀t∈ts,H t.1=some (.tup (t.2.map V.int)))/\H b=some (.tup (m.map V.int))/\m∈ts.map (·.2) ∧
 ∀us:List (Addr×List Int),us.map (·.2)=(ts.map (·.2)).erase m->(∀u∈us,u∈ts)->Q .non (upd H l (.lst (us.map λt =>.ref t.1)))
theorem zP (hu:X.A.units+8<cLine):MtM X "list.remove" AD:=by
 intro pins s σ H x vs v us Q I rx rv h
 obtain ⟨l,b,ts,m,rfl,rfl,hH,ht,hb,hm,q⟩:=h
 cases rx
 obtain ⟨ub,rfl,rb⟩:=vals1 rv
 cases (show ub=Bl b from rb)
 have ht':∀t∈ts,SqT X.K H t.1 (t.2.map V.int):=λt hm=>SqT.of (ht t hm)
 obtain ⟨z,its,n,r,hl,e⟩:=I.qy hH
 have ei:=dh r
 obtain ⟨j,j1,j2,j3⟩:=hZ hm
 have lt:j<ts.length:=by
  have:=(AW.mp j1).1
  rwa [AN] at this
 have li:its.length=ts.length:=by rw[ei,AN]
 have kat:∀(i:Nat) (hi:i<its.toArray.size),∃t∈ts,its.toArray[i]=Bl t.1/\(ts.map (·.2))[i]? = some t.2:=λi hi=>by
  rw[AX] at hi
  obtain ⟨t,et⟩:∃t,ts[i]? = some t:=⟨_,AQ (show i<ts.length by lia)⟩
  refine ⟨t,A8 et,?_,?_⟩
  ·have:its[i]? = some (Bl t.1):=by rw[ei,A4,et];rfl
   simp[AW] at this
   obtain ⟨_,g⟩:=this
   simpa using g
  ·rw[A4,et];rfl
 refine Fe EG ⟨_,e,rfl⟩ FZ (FL _ _) (Rem.sJ l its.toArray n (.ref b) (di ts m) j (by rw[AX];lia) ?_ ?_ (by rw[AX,li];have:=r.length;rw[AN] at this;rw[AN] at z;lia)) ⟨⟨e,?_⟩,?_⟩
 ·obtain ⟨t,ht2,e1,e2⟩:=kat j (by rw[AX];lia)
  rw[e1,cB I ht' ht2]
  rw[j1] at e2
  rw[decide_eq_true (BC e2).symm]
 ·intro i hi hij
  obtain ⟨t,ht2,e1,e2⟩:=kat i hi
  rw[e1,cB I ht' ht2,decide_eq_false (j2 i hij _ e2)]
 ·intro y hy
  have hy':y∈its:=by simpa using hy
  rw[ei] at hy'
  obtain ⟨t,hm2,rfl⟩:=Bh.mp hy'
  rw[cB I ht' hm2]
  exact I.eqT (by show X.A.units+1<cLine;lia) (ht' t hm2) (SqT.of hb)
 ·have ra:Vals ((ts.eraseIdx j).map λt=>V.ref t.1) (its.eraseIdx j):=by
   rw[ei]
   have g:∀(l:List (Addr×List Int)) (n:Nat),Vals ((l.eraseIdx n).map λt=>V.ref t.1) ((l.map λt=>Bl t.1).eraseIdx n):=by
    intro l
    induction l with
    | nil=>intro n;exact .nil
    | cons a l ih =>
     intro n
     cases n with
     | zero =>
      have:∀l:List (Addr×List Int),Vals (l.map λt=>V.ref t.1) (l.map λt=>Bl t.1):=by
       intro l
       induction l with
       | nil=>exact .nil
       | cons a l ih=>exact .cons rfl ih
      exact this l
     | succ n=>exact .cons rfl (ih n)
   exact g ts j
  have le:(ts.eraseIdx j).length<=ts.length:=by rw[G7];split <;> lia
  refine ⟨.non,_,I.uc (its':=its.eraseIdx j) hH e ?_ ra (by rw[AN] at z ⊢;lia),rfl,q (ts.eraseIdx j) ?_ λu hu=>List.mem_of_mem_eraseIdx hu⟩
  ·apply Fm.mp
   unfold Array.eraseIdxIfInBounds
   rw[dif_pos (by rw[AX];lia)]
   simp
  ·rw[j3]
   have g:∀(l:List (Addr×List Int)) (n:Nat),(l.eraseIdx n).map (·.2)=(l.map (·.2)).eraseIdx n:=by
    intro l
    induction l with
    | nil=>intro n;rfl
    | cons a l ih =>
     intro n
     cases n with
     | zero=>rfl
     | succ n=>show a.2 :: _=a.2 :: _;rw[ih n]
   exact g ts j
theorem k8 (hu:X.A.units+8<cLine):OpR X (CP .NotIn) (λx y H Q=>∃(p b:Addr) (ts:List (Addr×List Int)) (m:List Int),x = .ref b/\y = .ref p/\H p=some (.lst (ts.map λt =>.ref t.1))/\(∀t∈ts,H t.1=some (.tup (t.2.map V.int)))/\H b=some (.tup (m.map V.int))/\Q (.bl (!decide (m∈ts.map (·.2)))) H):=by
 intro pins s σ H x y v u Q I rx ry h
 obtain ⟨p,b,ts,m,rfl,rfl,hp,ht,hb,q⟩:=h
 cases rx
 cases ry
 have ht':∀t∈ts,SqT X.K H t.1 (t.2.map V.int):=λt hm=>SqT.of (ht t hm)
 obtain ⟨its,r,pl,hz⟩:=I.list (SqL.of (K:=X.K) hp)
 have ei:=dh r
 refine Hu (di ts m) pl.isList (λy hy =>?_) ⟨.bl _,H,I,rfl,?_⟩
 ·have hy':y∈its:=by simpa using hy
  rw[ei] at hy'
  obtain ⟨t,hm,rfl⟩:=Bh.mp hy'
  rw[cB I ht' hm]
  exact I.eqT (by show X.A.units+1<cLine;lia) (ht' t hm) (SqT.of hb)
 ·rw[show its.toArray.any (di ts m)=its.any (di ts m) by simp,ei,og I ht' ts (λt h=>h)]
  exact q
end
open PySem PySem.Spec PyProof.Rows
section
variable  {X:Cx}
theorem pW:bK X (.builtin "len") (λxs H Q=>∃(a:Addr) (ys:List V),xs=[.ref a]/\H a=some (gW X.w a ys)/\ys.length<1000/\Q (.int ys.length) H):=by
 intro pins s σ H xs us Q I r h
 obtain ⟨a,ys,rfl,ha,hl,q⟩:=h
 obtain ⟨u,rfl,ru⟩:=vals1 r
 cases (show u=Bl a from ru)
 obtain ⟨⟨es,⟨ep,t,ho,T,_⟩,rv⟩,_⟩:=(show aZ X.prog X.w H s.heap a (gW X.w a ys) from I.hok a _ ha)
 have l:=rv.length
 have l2:es.size=ys.length:=by simpa using l.symm
 refine call_len_set ho ⟨rfl,rfl,rfl⟩ rfl (by have:=T.fits;rwa [B6] at this) (by lia) ?_
 rw[l2]
 exact ⟨.int ys.length,H,I.tok _,⟨_,rfl⟩,q⟩
end
open PySem PySem.Spec PyProof.Rows
def x8:Stmt->List Stmt
 | .For _ _ body _ _=>body
 | _=>[]
theorem pX {α:Type}{g:α -> Addr}{ts:List α}{i:Nat}{x:V}(e:(ts.map λt=>V.ref (g t))[i]? = some x):∃u,ts[i]? = some u/\x = .ref (g u):=by
 rw[A4] at e
 cases z:ts[i]? with
 | none=>rw[z] at e;cases e
 | some tt=>rw[z] at e;exact ⟨tt,rfl,(BC e).symm⟩
theorem nE {ns:List Int}{i:Nat}{x:V}(e:(ns.map V.int)[i]? = some x):∃u,ns[i]? = some u/\x = .int u:=by
 rw[A4] at e
 cases z:ns[i]? with
 | none=>rw[z] at e;cases e
 | some tt=>rw[z] at e;exact ⟨tt,rfl,(BC e).symm⟩
theorem AE (k:Int):∀ps:List Int,inV (.int k) (ps.map V.int)=decide (k∈ps)
 | []=>by simp[inV]
 | p :: ps=>by
  have ih:=AE k ps
  unfold inV at ih ⊢
  rw[BF,Ek,ih]
  have e:eqV (.int p) (.int k)=(p == k):=rfl
  rw[e]
  by_cases h:p=k
  ·subst h;simp
  ·rw[beq_eq_false_iff_ne.mpr h,HC]
   apply decide_eq_decide.mpr
   rw[Bs]
   exact ⟨.inr,λx=>x.elim (λy=>absurd y.symm h) id⟩
def Pt (n:Nat)(H:Hp)(p:Addr):Prop:=∃xs:List Int,xs.length=n/\H p=some (.lst (xs.map V.int))
structure Bu (n:Nat)(p:Addr)(H H':Hp):Prop where
 pot:Pt n H' p
 st:∀q o,q≠p->H q=some o->H' q=some o
theorem Pt.same {n:Nat}{p:Addr}{H H1:Hp}(a:Pt n H p)(s:ay H H1):Pt n H1 p:=by obtain ⟨xs,l,e⟩:=a;exact ⟨xs,l,s _ _ e⟩
theorem Pt.ne {n:Nat}{p b:Addr}{H:Hp}(a:Pt n H p)(h:H b=none):b≠p:=by
 obtain ⟨xs,_,e⟩:=a
 exact C7 (aq e h)
theorem Pt.neT {n:Nat}{p b:Addr}{H:Hp}{ys:List V}(a:Pt n H p)(h:H b=some (.tup ys)):b≠p:=by
 obtain ⟨xs,_,e⟩:=a
 exact iA h e (by intro z;cases z)
theorem Bu.refl {n:Nat}{p:Addr}{H:Hp}(h:Pt n H p):Bu n p H H:=⟨h,λ_ _ _ z=>z⟩
theorem Bu.trans {n:Nat}{p:Addr}{H H1 H2:Hp}(a:Bu n p H H1)(b:Bu n p H1 H2):Bu n p H H2:=⟨b.pot,λq o m z=>b.st q o m (a.st q o m z)⟩
theorem Bu.same {n:Nat}{p:Addr}{H H1 H2:Hp}(a:Bu n p H H1)(b:ay H1 H2):Bu n p H H2:=⟨a.pot.same b,λq o m z=>b _ _ (a.st q o m z)⟩
theorem Bu.put {n:Nat}{p:Addr}{H H1:Hp}(a:Bu n p H H1){ys:List Int}(l:ys.length=n):Bu n p H (upd H1 p (.lst (ys.map V.int))):=⟨⟨ys,l,ae⟩,λq o m z=>by rw[aj m];exact a.st q o m z⟩
theorem Bu.bT {n:Nat}{p l:Addr}{H H1:Hp}(a:Bu n p H H1)(hl:H l=none)(np:l≠p)(o:HO):Bu n p H (upd H1 l o):=⟨by obtain ⟨xs,z,e⟩:=a.pot;exact ⟨xs,z,by rw[aj np.symm];exact e⟩,λq u m z=>by rw[aj (aq z hl)];exact a.st q u m z⟩
theorem Bu.tup {n:Nat}{p q:Addr}{H H1:Hp}(a:Bu n p H H1)(h:Pt n H p){xs:List V}(t:H q=some (.tup xs)):H1 q=some (.tup xs):=a.st q _ (h.neT t) t
theorem Bu.fresh {n:Nat}{p:Addr}{H H':Hp}{o:HO}(h:H p=none)(b:Bu n p (upd H p o) H'):ay H H':=λq u e=>by
 have m:q≠p:=aq e h
 refine b.st q u m ?_
 rw[aj m]
 exact e
def Tus (H:Hp)(ts:List (Addr×List Int)):Prop:=∀u∈ts,H u.1=some (.tup (u.2.map V.int))
theorem Tus.same {H H':Hp}{ts:List (Addr×List Int)}(h:Tus H ts)(s:ay H H'):Tus H' ts:=λu hu=>s _ _ (h u hu)
theorem Tus.bu {n:Nat}{p:Addr}{H H':Hp}{ts:List (Addr×List Int)}(h:Tus H ts)(b:Bu n p H H')(hp:Pt n H p):Tus H' ts:=λu hu=>b.tup hp (h u hu)
theorem Tus.snoc {H:Hp}{ts:List (Addr×List Int)}(h:Tus H ts){u:Addr×List Int}(e:H u.1=some (.tup (u.2.map V.int))):Tus H (ts++[u]):=λv hv=>by
 rcases A7.mp hv with z | z
 ·exact h v z
 ·rw[AZ] at z;subst z;exact e
structure Mkg (n:Nat)(p la:Addr)(H H':Hp)(us:List (Addr×List Int)):Prop where
 bu:Bu n p H H'
 at':H' la=some (.lst (us.map λu =>.ref u.1))
 tu:Tus H' us
 two:∀u∈us,∃x y,u.2=[x,y]
theorem Mkg.same {n:Nat}{p la:Addr}{H H1 H2:Hp}{us:List (Addr×List Int)}(m:Mkg n p la H H1 us)(s:ay H1 H2):Mkg n p la H H2 us:=⟨m.bu.same s,s _ _ m.at',m.tu.same s,m.two⟩
theorem Mkg.bu' {n:Nat}{p la:Addr}{H H1 H2:Hp}{us:List (Addr×List Int)}(m:Mkg n p la H H1 us)(np:la≠p)(b:Bu n p H1 H2):Mkg n p la H H2 us:=⟨m.bu.trans b,b.st _ _ np m.at',m.tu.bu b m.bu.pot,m.two⟩
variable  {X:Cx}
open PySem PySem.Spec PyProof.Rows
section
variable  {X:Cx}
theorem qU {k:Int}:∀{ns:List Int} {m:Nat} (h:m<ns.length),m<ns.idxOf k->ns[m]≠k
 | [],m,h,_=>absurd h (DZ _)
 | n :: ns,0,_,l=>by
  intro z
  have e:(n :: ns)[0]=n:=rfl
  rw[e] at z
  subst z
  simp at l
 | n :: ns,m+1,h,l=>by
  have h':m<ns.length:=E3 h
  show ns[m]≠k
  refine qU h' ?_
  by_cases e:n=k
  ·subst e;simp at l
  ·rw[List.idxOf_cons,show (n == k)=false by simpa using e] at l
   simp at l
   exact l
theorem nG:MtR X "list.index" (λx vs H Q=>∃(p:Addr) (ns:List Int) (k:Int),x = .ref p/\vs=[.int k]/\H p=some (.lst (ns.map V.int))/\k∈ns/\ns.length<=100000/\Q (.int (ns.idxOf k:Nat)) H):=by
 intro pins s σ H x vs v us Q I rx rv h
 obtain ⟨p,ns,k,rfl,rfl,hp,hk,hz,q⟩:=h
 cases rx
 obtain ⟨u,rfl,⟨t,rfl⟩⟩:=vals1 rv
 obtain ⟨z,its,n,r,e1⟩:=(show aZ X.prog X.w H s.heap p (.lst _) from I.hok p _ hp)
 have hi:DL its ns:=intsAre_of r
 have hlen:=hi.length
 have hj:ns.idxOf k<ns.length:=D1.mpr hk
 refine Fe EY ⟨_,e1,rfl⟩ PySem.F.entry_list_index (PySem.F.args_list_index_2 _ _) (SeqAt.list_indexAt p its.toArray n none #[] (.int k t) (isInt k) (ns.idxOf k) (by simpa [hlen] using hj) (by lia) ?_ ?_) ⟨e1,λy hy=>jw hi y hy,⟨.int _,H,I.tok _,⟨_,rfl⟩,q⟩⟩
 ·show isInt k its[ns.idxOf k]=true
  rw[HN k hi _ (by lia) hj];simpa using HD hj
 ·intro j hjs hlt
  show isInt k its[j]=false
  rw[HN k hi j (by simpa using hjs) (by lia)]
  simpa using qU (by lia) hlt
def sL (K:A0):R2:=λx y H Q=>∃a b xs ys,x = .ref a/\y = .ref b/\SqT K H a xs/\SqT K H b ys/\xs.length+ys.length<=Ba/\(xs=[]->Q (.ref b) H)/\(ys=[]->Q (.ref a) H)/\(xs≠[]->ys≠[]->∀p,H p=none->Q (.ref p) (upd H p (.tup (xs++ys))))
theorem wc:OpR X (binaryOp .Add) (sL X.K):=by
 intro pins s σ H x y v u Q I rx ry h
 obtain ⟨a,b,xs,ys,rfl,rfl,ha,hb,hz,q1,q2,q3⟩:=h
 by_cases hx:xs=[]
 ·cases rx
  cases ry
  obtain ⟨its,r1,p1,_⟩:=I.tuple ha
  obtain ⟨its2,r2,p2,_⟩:=I.tuple hb
  obtain ⟨⟨c1,d1,da1,s1⟩,o1,k1,n1,g1⟩:=id p1
  obtain ⟨⟨c2,d2,da2,s2⟩,o2,k2,n2,g2⟩:=id p2
  simp only at k1 g1 k2 g2
  subst k1 g1 k2 g2
  have e0:its=[]:=r1.j9.mpr hx
  exact GY ⟨_,o1,rfl⟩ ⟨_,o2,rfl⟩ Gv HG E1 EL (ED _ _)
   (tuple_addW0 a b its.toArray its2.toArray n1 n2 d1 d2 s1 s2 (by simp[e0])) ⟨o1,o2,⟨.ref b,H,I,rfl,q1 hx⟩⟩
 ·exact xq pins s σ H _ _ v u Q I rx ry ⟨a,b,xs,ys,rfl,rfl,ha,hb,hx,hz,q2,λhy=>q3 hx hy⟩
theorem sL.one {K:A0}{H:Hp}{Q:VK}{a b:Addr}{xs ys:List V}(ha:H a=some (.tup xs))(hb:H b=some (.tup ys))(hz:xs.length+ys.length<=Ba)(q:∀p H',ay H H'->H' p=some (.tup (xs++ys))->Q (.ref p) H'):sL K (.ref a) (.ref b) H Q:=by
 refine ⟨a,b,xs,ys,rfl,rfl,SqT.of ha,SqT.of hb,hz,λz =>?_,λz =>?_,λ_ _ p hp=>q p _ (ag hp _) ae⟩
 ·subst z;exact q b H (ay.refl _) hb
 ·subst z;exact q a H (ay.refl _) (by rw[B7];exact ha)
end
open PySem PySem.Spec PyProof.Rows
section
variable  {X:Cx}
theorem uL:Ab X (λo i H Q=>∃(p:Addr) (xs:List V) (k:Nat) (v:V),o = .ref p/\i = .int k/\SqL X.K H p xs/\xs[k]? = some v/\Q v H):=by
 intro pins s σ H o i ov iv Q I ro ri h
 obtain ⟨p,xs,k,v,rfl,rfl,hq,he,q⟩:=h
 cases (show ov=Bl p from ro)
 obtain ⟨t,rfl⟩:=(show ∃t,iv=CQ k t from ri)
 obtain ⟨its,r,pl,hz⟩:=I.list hq
 obtain ⟨w,ew,rw'⟩:=r.get he
 have hk:k<xs.length:=(AW.mp he).1
 have hn:=jl
 exact wpAny_getItem_list pl.isList (by lia) (by lia) (by simpa using ew) ⟨v,H,I,rw',q⟩
theorem uM (hc:X.calm=true):bK X (.builtin "min") (λxs H Q=>∃(a:Addr) (ns:List Int),xs=[.ref a]/\SqL X.K H a (ns.map V.int)/\ns≠[]/\∀M:Int,M∈ns->(∀b∈ns,M<=b)->Q (.int M) H):=by
 intro pins s σ H xs us Q I r h
 obtain ⟨a,ns,rfl,hS,hne,q⟩:=h
 obtain ⟨u,rfl,ru⟩:=vals1 r
 cases (show u=Bl a from ru)
 obtain ⟨its,r1,p1,_⟩:=I.list hS
 obtain ⟨ps,e2,e3⟩:=fU (intsAre_of r1)
 have ei:its.toArray=Fz ps.toArray:=by rw[e2];simp[Fz]
 have hl:s.heap.IsList a (Fz ps.toArray):=by rw[<- ei];exact p1.isList
 have hz:ps.toArray.size=ns.length:=by rw[AX, <- e3,AN]
 have hp:0<ns.length:=EA.mpr hne
 have ht:ps.toArray.toList.map (·.1)=ns:=e3
 refine min_intList (I.ok.hd hc) hl (by lia) λv h' tk hv k =>?_
 rw[hz] at hv
 obtain ⟨t,rfl⟩:=IM hv
 obtain ⟨h1,h2⟩:=argBest_lt (numAt ps.toArray) (ns.length-1)
 refine ⟨.int _,H,I.kept k,⟨_,rfl⟩,q _ ?_ λb hb =>?_⟩
 ·rw[Gn,ht];exact wa (by lia)
 ·obtain ⟨j,hj,rfl⟩:=wb hb
  have:=h2 j (by lia)
  rw[Gn,Gn,ht] at this
  rw[Gn,ht]
  exact this
def EqS (K:A0)(H:Hp):Nat->V->V->Prop
 | 0,x,y=>(∃i,x = .int i/\y = .int i)\/(∃i,x = .str i/\y = .str i)\/∃a,x = .ref a/\y = .ref a
 | n+1,x,y=>(∃i,x = .int i/\y = .int i)\/(∃i,x = .str i/\y = .str i)\/(∃a,x = .ref a/\y = .ref a)\/∃a b xs ys,x = .ref a/\y = .ref b/\((SqT K H a xs/\SqT K H b ys)\/(SqL K H a xs/\SqL K H b ys))/\Paired (EqS K H n) xs ys
theorem gK {K:A0}{H:Hp}{n:Nat}{s:A1}{A:Cc}{xs ys:List V}{us vs:List AS}(p:Paired (EqS K H n) xs ys)(r1:Vals xs us)(r2:Vals ys vs)
  (ih:∀x y u v,EqS K H n x y->RelV x u->RelV y v->EI A s u v true):∀j (h1:j<us.toArray.size) (h2:j<vs.toArray.size),EI A s us.toArray[j] vs.toArray[j] true:=λj h1 h2=>by
 rw[AX] at h1 h2
 have l1:=r1.length
 have l2:=r2.length
 have e1:xs[j]? = some xs[j]:=AQ (by omega)
 have e2:ys[j]? = some ys[j]:=AQ (by omega)
 obtain ⟨u,g1,q1⟩:=r1.get e1
 obtain ⟨v,g2,q2⟩:=r2.get e2
 have f1:us.toArray[j]=u:=by simp[AW] at g1;obtain ⟨_,g⟩:=g1;simpa using g
 have f2:vs.toArray[j]=v:=by simp[AW] at g2;obtain ⟨_,g⟩:=g2;simpa using g
 rw[f1,f2]
 exact ih _ _ u v (mV p e1 e2) q1 q2
theorem iV {A:Cc}{s:A1}{x y:V}{u v:AS}(h:(∃i,x = .int i/\y = .int i)\/(∃i,x = .str i/\y = .str i)\/∃a,x = .ref a/\y = .ref a)(ru:RelV x u)(rv:RelV y v):EI A s u v true:=by
 rcases h with ⟨i,rfl,rfl⟩ | ⟨i,rfl,rfl⟩ | ⟨a,rfl,rfl⟩
 ·obtain ⟨t,rfl⟩:=(show ∃t,u=CQ i t from ru)
  obtain ⟨t',rfl⟩:=(show ∃t,v=CQ i t from rv)
  have:=EM (A:=A) (s:=s) i t i t'
  rw[beq_self_eq_true] at this
  exact this
 ·obtain ⟨t,rfl⟩:=(show ∃t,u=Value.str i t from ru)
  obtain ⟨t',rfl⟩:=(show ∃t,v=Value.str i t from rv)
  have:=Ht (A:=A) (s:=s) i t i t'
  rw[show (i == i)=true by simp] at this
  exact this
 ·cases (show u=Bl a from ru)
  cases (show v=Bl a from rv)
  exact GJ _
theorem qV {pins:List (Addr×Obj)}{σ:St}{H:Hp}{s:A1}(I:Inv X pins σ H s):∀(n:Nat) (A:Cc) (x y:V) (u v:AS),A.units+n<cLine->EqS X.K H n x y->RelV x u->RelV y v->EI A s u v true
 | 0,A,x,y,u,v,_,h,ru,rv=>iV h ru rv
 | n+1,A,x,y,u,v,hA,h,ru,rv=>by
  rcases h with h | h | h | ⟨a,b,xs,ys,rfl,rfl,hs,p⟩
  ·exact iV (.inl h) ru rv
  ·exact iV (.inr (.inl h)) ru rv
  ·exact iV (.inr (.inr h)) ru rv
  ·cases (show u=Bl a from ru)
   cases (show v=Bl b from rv)
   by_cases hab:a=b
   ·subst hab;exact GJ _
   refine SeqAt.EqAt.of_refs hab ?_
   have ih:∀x y u v,EqS X.K H n x y->RelV x u->RelV y v->EI A.in1 s u v true:=λx y u v h1 h2 h3=>qV I n A.in1 x y u v (by show A.units+1+n<cLine;lia) h1 h2 h3
   have pl:=D7 p
   rcases hs with ⟨h1,h2⟩ | ⟨h1,h2⟩
   ·obtain ⟨its,r1,p1,_⟩:=I.tuple h1
    obtain ⟨its2,r2,p2,_⟩:=I.tuple h2
    have q:=HZ (e:=λ_=>true) (show s.heap.IsTuple a its.toArray from p1) (show s.heap.IsTuple b its2.toArray from p2) (by lia) (gK p r1 r2 ih)
    have ez:its.toArray.size=its2.toArray.size:=by rw[AX,AX, <- r1.length, <- r2.length,pl]
    rw[all_true,ez,beq_self_eq_true] at q
    exact q
   ·obtain ⟨its,r1,p1,_⟩:=I.list h1
    obtain ⟨its2,r2,p2,_⟩:=I.list h2
    have q:=SeqAt.RcAt.lists (e:=λ_=>true) p1.isList p2.isList (by rw[AX,AX, <- r1.length, <- r2.length,pl]) (by lia) (gK p r1 r2 ih)
    rw[all_true] at q
    exact q
theorem x9 {k:Nat}(hr:cM k X.A):OpR X (CP .NotEq) (λx y H Q=>∃a b xs ys,x = .ref a/\y = .ref b/\SqT X.K H a xs/\SqT X.K H b ys/\Paired (EqS X.K H 20) xs ys/\Q (.bl false) H):=by
 intro pins s σ H x y v u Q I rx ry h
 obtain ⟨a,b,xs,ys,rfl,rfl,h1,h2,p,q⟩:=h
 cases (show v=Bl a from rx)
 cases (show u=Bl b from ry)
 obtain ⟨its,r1,p1,_⟩:=I.tuple h1
 obtain ⟨its2,r2,p2,_⟩:=I.tuple h2
 have l1:=r1.length
 have l2:=r2.length
 have pl:=D7 p
 have hu:=hr.un
 have hu1:X.A.units<cLine:=by lia
 have R:=SeqAt.RcNeAt.tuples (A:=X.A) (e:=λ_=>true) (show s.heap.IsTuple a its.toArray from p1) (show s.heap.IsTuple b its2.toArray from p2) hu1 (gK p r1 r2 λx y u v h1 h2 h3=>qV I 20 _ x y u v (by show X.A.units+1+_<cLine;lia) h1 h2 h3)
 rw[AX,AX, <- l1, <- l2,pl,GN,beq_self_eq_true,all_true] at R
 exact R _ _ _ _ ⟨.bl false,H,I,rfl,q⟩
theorem yb {k:Nat}(hr:cM k X.A):OpR X (CP .Eq) (λx y H Q=>∃a b xs ys,x = .ref a/\y = .ref b/\SqT X.K H a xs/\SqT X.K H b ys/\Paired (EqS X.K H 20) xs ys/\Q (.bl true) H):=by
 intro pins s σ H x y v u Q I rx ry h
 obtain ⟨a,b,xs,ys,rfl,rfl,h1,h2,p,q⟩:=h
 cases (show v=Bl a from rx)
 cases (show u=Bl b from ry)
 obtain ⟨its,r1,p1,_⟩:=I.tuple h1
 obtain ⟨its2,r2,p2,_⟩:=I.tuple h2
 have l1:=r1.length
 have l2:=r2.length
 have pl:=D7 p
 have hu:=hr.un
 have hu1:X.A.units<cLine:=by lia
 have R:=HZ (A:=X.A) (e:=λ_=>true) (show s.heap.IsTuple a its.toArray from p1) (show s.heap.IsTuple b its2.toArray from p2) hu1 (gK p r1 r2 λx y u v h1 h2 h3=>qV I 20 _ x y u v (by show X.A.units+1+_<cLine;lia) h1 h2 h3)
 rw[all_true,AX,AX, <- l1, <- l2,pl,beq_self_eq_true] at R
 exact R _ _ _ _ ⟨.bl true,H,I,rfl,q⟩
end
end L2
namespace L2.RvT
open PySem PyProof.Rows
open Sem (wp)
section
variable  {prog:Bi}{w:BQ}{A:Cc}{E:AS->A1->Prop}{s:A1}
end
section
variable  {prog:Bi}{w:BQ}{A:Cc}{E:AS->A1->Prop}{s:A1}
end
end L2.RvT
namespace L2
open PySem PySem.Spec PyProof.Rows
section
variable  {X:Cx}
theorem sM {k:Nat}(hr:cM k X.A):OpR X (CP .Eq) (λx y H Q=>∃(a b:Addr) (ns ms:List Int),x = .ref a/\y = .ref b/\SqL X.K H a (ns.map V.int)/\SqL X.K H b (ms.map V.int)/\Q (.bl (decide (ns=ms))) H):=by
 intro pins s σ H x y v u Q I rx ry h
 obtain ⟨a,b,ns,ms,rfl,rfl,h1,h2,q⟩:=h
 cases (show v=Bl a from rx)
 cases (show u=Bl b from ry)
 obtain ⟨its,r1,⟨⟨c1,d1,da1,sl1⟩,n1,e1,k1,_,k3⟩,_⟩:=I.list h1
 obtain ⟨its2,r2,⟨⟨c2,d2,da2,sl2⟩,n2,e2,g1,_,g3⟩,_⟩:=I.list h2
 simp only at k1 k3 g1 g3
 subst k1 k3 g1 g3
 have l1:=r1.length
 have l2:=r2.length
 rw[AN] at l1 l2
 have hu:=hr.un
 have hu1:X.A.units<cLine:=by lia
 by_cases hl:ns.length=ms.length
 ·refine Ei (op :=.Eq) ⟨_,e1,rfl⟩ ⟨_,e2,rfl⟩ F.slot_list_eq IH (Iw _ _) (SeqAt.list_eqAt a b its.toArray its2.toArray n1 n2 d1 d2 sl1 sl2 (by rw[AX,AX];lia) (xZ ns ms)) ⟨e1,e2,?_,?_⟩ hu1
  ·intro j h1 h2
   obtain ⟨t1,g1⟩:=intAt r1 h1
   obtain ⟨t2,g2⟩:=intAt r2 h2
   rw[g1,g2]
   exact EM _ t1 _ t2
  ·have ez:its.toArray.size=ns.length:=by rw[AX];lia
   rw[ez,pV hl]
   exact ⟨(λz=>nomatch z),⟨.bl _,H,I,rfl,q⟩⟩
 ·have ne:ns≠ms:=λz=>hl (by rw[z])
  rw[decide_eq_false ne] at q
  refine Ei (op :=.Eq) ⟨_,e1,rfl⟩ ⟨_,e2,rfl⟩ F.slot_list_eq IH (Iw _ _) (SeqAt.list_eq_lengthsAt a b its.toArray its2.toArray n1 n2 d1 d2 sl1 sl2 (by simp;lia)) ⟨e1,e2,?_⟩ hu1
  exact ⟨(λz=>nomatch z),⟨.bl false,H,I,rfl,q⟩⟩
theorem bQ:SlR X (λx lo hi H Q=>∃a xs,x = .ref a/\H a=some (.tup xs)/\∀p2 H2,ay H H2->H2 p2=some (.tup (fE xs lo hi))->Q (.ref p2) H2):=by
 intro pins s σ H x v vl vu lo hi sl Q I rx hs pl pu h
 obtain ⟨a,xs,rfl,ep,key⟩:=h
 refine xU pins s σ H _ v vl vu lo hi sl Q I rx hs pl pu ⟨a,xs,rfl,SqT.of ep,λz=>key a H (ay.refl _) ?_,λ_ p2 hp2=>key p2 _ (ag hp2 _) ae⟩
 unfold fE
 rw[z.1,z.2,Ep,Ic,List.take_length]
 exact ep
theorem cc:OpR X (binaryOp .Add) (λx y H Q=>∃a b xs ys,x = .ref a/\y = .ref b/\H a=some (.tup xs)/\H b=some (.tup ys)/\xs.length+ys.length<=Ba/\∀p H',ay H H'->H' p=some (.tup (xs++ys))->Q (.ref p) H'):=by
 intro pins s σ H x y v u Q I rx ry h
 obtain ⟨a,b,xs,ys,rfl,rfl,ha,hb,hz,q⟩:=h
 exact wc pins s σ H _ _ v u Q I rx ry (sL.one ha hb hz q)
end
open PySem PySem.Spec PyProof.Rows
section
variable  {X:Cx}
end
theorem cT {K:A0}{p:Addr}{ts:List (Addr×V×V)}{k l:Nat}{tc:TT}{te:TE}{τ:St}{H:Hp}{Q:VK}(Pv:Nat->List V->Hp->Prop)(hkl:k≠l)(h0:Pv 0 [] H)(hz:ts.length<=Ba)
  (hl:∀i ys H,i<=ts.length->Pv i ys H->SqT K H p (ts.map λt =>.ref t.1)/\∀t∈ts,SqT K H t.1 [t.2.1,t.2.2])
  (hs:∀i t ys H,ts[i]? = some t->ys.length<=i->Pv i ys H->Av k l tc te τ Pv i t.2.1 t.2.2 ys H)
  (hd:∀ys H,ys.length<=ts.length->Pv ts.length ys H->∀r,H r=none->Q (.ref r) (upd H r (.lst ys))):o7 (Itt K p) (yB K k l) tc te τ Q H:=by
 refine ⟨λi m σ ys H=>m=ts.length-i/\i<=ts.length/\(∀a b,(σ.set k (some a)).set l (some b)=(τ.set k (some a)).set l (some b))/\ys.length<=i/\Pv i ys H,⟨ts.length,by simp,BX _,λ_ _=>rfl,AY _,h0⟩,?_⟩
 rintro i m σ ys H ⟨rfl,hi,hτ,hy,pv⟩
 obtain ⟨q,qt⟩:=hl i ys H hi pv
 have ln:(ts.map λt:Addr×V×V=>V.ref t.1).length=ts.length:=AN _
 by_cases hlt:i<ts.length
 ·have et:ts[i]? = some ts[i]:=AQ hlt
  have em:(ts.map λt:Addr×V×V=>V.ref t.1)[i]? = some (.ref ts[i].1):=by rw[A4,et];rfl
  refine .inr ⟨⟨_,_,q,em⟩,λx H' y =>?_⟩
  obtain ⟨e,y⟩:=y
  subst e
  have ex:=y _ q
  rw[em] at ex
  cases ex
  have st:=qt ts[i] (Dh hlt)
  refine ⟨ts[i].1,_,rfl,st,rfl,_,_,rfl,_,_,rfl,rfl,?_⟩
  rw[hτ]
  have hσ:∀a b,((((τ.set k (some ts[i].2.1)).set l (some ts[i].2.2)).set k (some a)).set l (some b))=(τ.set k (some a)).set l (some b):=λa b=>by
   rw[List.set_comm _ _ (C7 hkl),FN,FN]
  refine hs i ts[i] ys _ et hy pv _ _ (λy4 H4 p4=>⟨by lia,ts.length-(i+1),by lia,rfl,hlt,hσ,by rw[AR,Ca];lia,p4⟩) λH3 p3=>⟨ts.length-(i+1),by lia,rfl,hlt,hσ,by lia,p3⟩
 ·have e:i=ts.length:=by lia
  subst e
  exact .inl ⟨⟨_,q,by rw[ln];exact AY _⟩,by lia,hd ys H hy pv⟩
open PySem PySem.Spec PyProof.Rows
section
variable  {X:Cx}
theorem fv (hh:X.A.handled=none):bK X (.type "list") (λxs H Q=>∃(a:Addr) (n:Nat),xs=[.ref a]/\H a=some (.rng 0 n)/\n<=1000/\∀l,H l=none->Q (.ref l) (upd H l (.lst ((Bw n).map λi=>V.int (i:Nat))))):=by
 intro pins s σ H xs us Q I r h
 obtain ⟨a,n,rfl,ha,hn,q⟩:=h
 obtain ⟨u,rfl,ru⟩:=vals1 r
 cases (show u=Bl a from ru)
 obtain ⟨t,u,v,e⟩:=(show aZ X.prog X.w H s.heap a (.rng 0 n) from I.hok a _ ha)
 have rs:Builtin.Range.rangeSize 0 (n:Int) 1=(n:Int):=by
  rw[HF]
  split <;> lia
 have n24:n<=2 ^ 24:=by lia
 refine call_list_range hh e (small_one (by lia) (by lia) (by lia) (by lia)) rs n24 λh' tk acc' c' k e' it =>?_
 have hv:∀(i:Nat) (x:AS),acc'.toList[i]? = some x->∃t,x=CQ i t:=λi x hx=>by
  rw[A9] at hx
  obtain ⟨t',e⟩:=it.2 i x hx
  exact ⟨t',by rw[e];simp⟩
 have rv:=kY hv
 rw[A5,it.1] at rv
 exact ⟨.ref s.heap.objs.size,_,I.laid (o :=.lst ((Bw n).map λi=>V.int (i:Nat))) k (AY _) ⟨by rw[AN,Dm];exact small hn,acc'.toList,c',rv,by simpa using e'⟩,rfl,q _ (I.hok.fresh (AY _))⟩
end
open PySem PySem.Spec PyProof.Rows SeqAt
theorem mE (l:Addr)(items:Array AS)(n:Nat)(dd:Option Addr)(sl:Array (Option AS))(x:AS)(e:AS->Bool)(j:Nat)(hj:j<items.size)(hit:e items[j]=true)(hno:∀m (hm:m<items.size),m<j->e items[m]=false) :
  Meets (Builtin.«tuple.index» ⟨[.ref l,x],[]⟩)
   (λA R s=>s.heap.get? l=some { cls :=.type "tuple",dict:=dd,data :=.seq items n,slots:=sl }/\(∀y,y∈items->EqAt A.in1 s y x (e y))/\R (.ok (.ret (.int j s.toks))) { s with toks:=s.toks+1 }) :=
 .of_wp λprog w A R s h=>by
  obtain ⟨hl,he,h⟩:=h
  unfold Builtin.«tuple.index»
  refine AO (Hk (a:=(Bl l,[x])) rfl ?_)
  refine AO (PyProof.Rows.tupleItemsOf_ (⟨_,hl,rfl,_,rfl⟩:IsTup s.heap l items) ?_)
  dsimp only
  refine AO (AV (AO (AV ?_)))
  rw[GN,G3]
  refine AO (Ft _ (λrest b s'=>s'=s/\b=(none,())/\∃i,rest=List.range' i (items.size-i)/\i<=j) _ ?_ ?_ _ _ ⟨rfl,rfl,0,?_,BX _⟩)
  ·rintro k rest b s' ⟨rfl,rfl,i,er,hi⟩
   rw[show items.size-i=(items.size-(i+1))+1 by lia,Gs] at er
   injection er with e1 e2
   subst e1
   have hk:k<items.size:=by lia
   rw[BE hk]
   refine AO (he _ (Fb hk) prog w _ _ ?_)
   by_cases z:k=j
   ·subst z
    rw[hit]
    refine AO (AO (wpAny_mkInt (AV (AV ?_))))
    exact AV ⟨_,rfl,h⟩
   ·rw[hno k hk (by lia)]
    exact AV ⟨rfl,rfl,k+1,e2,by lia⟩
  ·rintro b s' ⟨rfl,rfl,i,er,hi⟩
   rw[show items.size-i=(items.size-(i+1))+1 by lia,Gs] at er
   cases er
  ·simp[Std.Legacy.Range.size]
section
variable  {X:Cx}
theorem eC:MtR X "tuple.index" (λx vs H Q=>∃(p:Addr) (ns:List Int) (k:Int),x = .ref p/\vs=[.int k]/\H p=some (.tup (ns.map V.int))/\k∈ns/\Q (.int (ns.idxOf k:Nat)) H):=by
 intro pins s σ H x vs v us Q I rx rv h
 obtain ⟨p,ns,k,rfl,rfl,hp,hk,q⟩:=h
 cases rx
 obtain ⟨u,rfl,⟨t,rfl⟩⟩:=vals1 rv
 obtain ⟨z,its,r,ob,e1,⟨c1,d1⟩,n,s1⟩:=(show aZ X.prog X.w H s.heap p (.tup _) from I.hok p _ hp)
 have hi:DL its ns:=intsAre_of r
 have hlen:=hi.length
 have hj:ns.idxOf k<ns.length:=D1.mpr hk
 obtain ⟨cls,dd,data,sl⟩:=ob
 simp only at c1 s1
 subst c1 s1
 refine Fe C2 ⟨_,e1,rfl⟩ PySem.F.entry_tuple_index (PySem.F.args_tuple_index_2 _ _) (mE p its.toArray n dd sl (.int k t) (isInt k) (ns.idxOf k) (by simpa [hlen] using hj) ?_ ?_) ⟨e1,λy hy=>jw hi y hy,⟨.int _,H,I.tok _,⟨_,rfl⟩,q⟩⟩
 ·show isInt k its[ns.idxOf k]=true
  rw[HN k hi _ (by omega) hj];simpa using HD hj
 ·intro j hjs hlt
  show isInt k its[j]=false
  rw[HN k hi j (by simpa using hjs) (by omega)]
  simpa using qU (by omega) hlt
end
open PySem PySem.Spec PyProof.Rows
section
variable  {X:Cx}
def AF:V->List V->Hp->VK->Prop:=λx vs H Q=>∃(l:Addr) (ns:List Int) (k:Int),x = .ref l/\vs=[.int k]/\H l=some (.lst (ns.map V.int))/\k∈ns/\Q .non (upd H l (.lst ((ns.erase k).map V.int)))
theorem k9:∀{xs:List V} {its:List AS} (j:Nat),Vals xs its->Vals (xs.eraseIdx j) (its.eraseIdx j)
 | [],_,_,.nil =>.nil
 | _ :: _,_,0,.cons _ t=>t
 | _ :: _,_,j+1,.cons r t =>.cons r (k9 j t)
theorem lp:∀(ns:List Int) (j:Nat),(ns.eraseIdx j).map V.int=(ns.map V.int).eraseIdx j
 | [],_=>rfl
 | _ :: _,0=>rfl
 | n :: ns,j+1=>by show V.int n :: _=V.int n :: _;rw[lp ns j]
theorem qW:MtM X "list.remove" AF:=by
 intro pins s σ H x vs v us Q I rx rv h
 obtain ⟨l,ns,k,rfl,rfl,hH,hm,q⟩:=h
 cases rx
 obtain ⟨ub,rfl,⟨tk,rfl⟩⟩:=vals1 rv
 obtain ⟨z,its,n,r,hl,e⟩:=I.qy hH
 have hi:DL its ns:=intsAre_of r
 obtain ⟨j,j1,j2,j3⟩:=hZ hm
 have li:its.length=ns.length:=by have:=r.length;rw[AN] at this;exact this.symm
 have lt:j<ns.length:=(AW.mp j1).1
 refine Fe EG ⟨_,e,rfl⟩ FZ (FL _ _) (Rem.sJ l its.toArray n (.int k tk) (isInt k) j (by rw[AX];lia) ?_ ?_ (by rw[AX,li];rw[AN] at z;lia)) ⟨⟨e,?_⟩,?_⟩
 ·have:=HN k hi j (by lia) lt
  have e2:=(AW.mp j1).2
  rw[e2] at this
  simpa using this
 ·intro i hi' hij
  have h1:i<its.length:=by simpa using hi'
  have:=HN k hi i h1 (by lia)
  have ne:=j2 i hij ns[i] (AQ (by lia))
  rw[beq_false_of_ne ne] at this
  simpa using this
 ·exact λy hy=>jw hi y hy
 ·have le:(ns.erase k).length<=ns.length:=List.length_erase_le
  refine ⟨.non,_,I.uc (its':=its.eraseIdx j) hH e ?_ (by rw[j3,show (ns.eraseIdx j).map V.int=(ns.map V.int).eraseIdx j from lp ns j];exact k9 j r) (by rw[AN] at z ⊢;lia),rfl,q⟩
  apply Fm.mp
  unfold Array.eraseIdxIfInBounds
  rw[dif_pos (by rw[AX];lia)]
  simp
end
open PySem PySem.Spec PyProof.Rows
section
variable  {X:Cx}
theorem qX (hc:X.calm=true):bK X (.builtin "min") (λxs H Q=>∃(a:Addr) (ns:List Int),xs=[.ref a]/\SqT X.K H a (ns.map V.int)/\ns≠[]/\∀M:Int,M∈ns->(∀b∈ns,M<=b)->Q (.int M) H):=by
 intro pins s σ H xs us Q I r h
 obtain ⟨a,ns,rfl,hS,hne,q⟩:=h
 obtain ⟨u,rfl,ru⟩:=vals1 r
 cases (show u=Bl a from ru)
 obtain ⟨its,r1,p1,_⟩:=I.tuple hS
 obtain ⟨ps,e2,e3⟩:=fU (intsAre_of r1)
 have ei:its.toArray=Fz ps.toArray:=by rw[e2];simp[Fz]
 have hT:s.heap.IsTuple a (Fz ps.toArray):=by
  obtain ⟨o,ho,hc',n,hd⟩:=p1
  exact ⟨o,ho,hc',n,by rw[<- ei];exact hd⟩
 have hz:ps.toArray.size=ns.length:=by rw[AX, <- e3,AN]
 have hp:0<ns.length:=EA.mpr hne
 have ht:ps.toArray.toList.map (·.1)=ns:=e3
 have hal:a<s.heap.objs.size:=by obtain ⟨o,ho,_⟩:=p1;exact Bc ho
 refine call_min_walk (FP hT ?_)
 refine ⟨_,[_,a],[_],_,_,_,_,rfl,Jk (A:=X.A.in1) (I.ok.hd hc) _ a (Bz hal) (Fz ps.toArray),⟨⟨_,Bd _ rfl,rfl,rfl⟩,hT.push _⟩,λc hc' =>?_,by simp only[Fz,B6];lia,CmpOf.ints_lt (numAt ps.toArray) (λ_ _=>IM),λv h' tk hv hk =>?_⟩
 ·show c<(s.heap.push _).objs.size
  rw[DC]
  rcases Bs.mp hc' with rfl | hc'
  ·exact CZ _
  ·rw[AZ.mp hc'];exact Cy hal
 ·have k:∀b o,s.heap.get? b=some o->h'.get? b=some o:=λb o e=>hk b o (λhm=>by
   have:=Bc e
   rw[AZ.mp hm] at this
   exact Cp _ this) (AU _ e)
  have hsz:(Fz ps.toArray).size=ns.length:=by simp only[Fz,B6];exact hz
  rw[hsz] at hv
  obtain ⟨t,rfl⟩:=IM hv
  obtain ⟨h1,h2⟩:=argBest_lt (numAt ps.toArray) (ns.length-1)
  refine ⟨.int _,H,I.kept k,⟨_,rfl⟩,q _ ?_ λb hb =>?_⟩
  ·rw[Gn,ht];exact wa (by lia)
  ·obtain ⟨j,hj,rfl⟩:=wb hb
   have:=h2 j (by lia)
   rw[Gn,Gn,ht] at this
   rw[Gn,ht]
   exact this
end
end L2
namespace L2.MnT
open PySem PyProof.Rows
section
variable  {prog:Bi}{w:BQ}{A:Cc}{E:AS->A1->Prop}{I:Addr}{fp wr:List Addr}{n:Nat}{P:Nat->AS->Prop}{St:Nat->Heap->Prop}
def Cmp (prog:Bi)(w:BQ)(A:Cc)(P:Nat->AS->Prop)(St:Nat->Heap->Prop)(bt:Nat->Nat->Bool):Prop :=
 ∀k i j x y (s:A1) (Q E:AS->A1->Prop),St k s.heap->P i x->P j y->Q (.bool (bt i j)) s->Bv (BJ prog w) A (richCompare .Lt x y) Q E s
abbrev Bag (S:Addr)(xs:Array AS)(c:Nat)(h:Heap):Prop:=h.get? S=some { cls :=.type "list",dict:=none,data :=.seq xs c,slots := #[] }
abbrev Kept (wr:List Addr)(S:Addr)(h h':Heap):Prop:=∀b o,b∉wr->b≠S->h.get? b=some o->h'.get? b=some o
theorem loop {R:Result->A1->Prop}(W:Walks prog w A.in1 I fp wr n P St){bt:Nat->Nat->Bool}(C:Cmp prog w A.in1 P St bt){S:Addr}(nS:S∉fp):∀(d j:Nat) (s:A1) (best:AS) (c:Nat),n=j+1+d->St (j+1) s.heap->P (argBest bt j) best->Bag S #[best,best] c s.heap →
  (∀v h' tk,P (argBest bt (n-1)) v->Kept wr S s.heap h'->R (.ok (.ret v)) { s with heap:=h',toks:=tk })->Ff (BJ prog w) A (.builtin "min.loop" ⟨[.ref I,.none,.ref S],[]⟩) R s:=by
 have nw:S∉wr:=λh=>nS (W.sub _ h)
 have nm:(toString "min" ++ toString ".loop" : String) = "min.loop" := by decide
 intro d
 induction d with
 | zero =>
  intro j s best c hn st pb bg hR
  have e:j+1=n:=by lia
  rw[e] at st
  refine BR Dk ?_
  rw[BH B5 _]
  show Bv _ _ (seqItems? (.ref S) >>= _) _ _ s
  refine AO (DS bg rfl ?_)
  show Bv _ _ (tryCatch (pyNext (.ref I)) _ >>= _) _ _ s
  refine AO (C6 (W.done s _ _ st λh1 tk kp =>?_))
  show Bv _ _ (updateSeq S (λ_ => #[]) >>= _) _ _ _
  refine AO ?_
  refine CN (kp S _ nw bg) rfl (AO (EC (AV (hR best _ tk (by rw[<- e];exact pb) ?_))))
  exact λb o nb ns eb=>(BB _ _ (C7 ns)).trans (kp b o nb eb)
 | succ d ih =>
  intro j s best c hn st pb bg hR
  refine BR Dk ?_
  rw[BH B5 _]
  show Bv _ _ (seqItems? (.ref S) >>= _) _ _ s
  refine AO (DS bg rfl ?_)
  show Bv _ _ (tryCatch (pyNext (.ref I)) _ >>= _) _ _ s
  refine AO (C6 (W.item (j+1) s _ _ (by lia) st λv h1 tk pv st1 kp =>?_))
  have bg1:=kp S _ nw bg
  show Bv _ _ (tryCatch (Fg [v,v] (richCompare .Lt v best >>= _)) _ >>= _) _ _ _
  refine AO (C6 (B8 (AO (C (j+1+1) (j+1) (argBest bt j) v best _ _ _ st1 pv pb ?_))))
  refine AO (B8 (C3 ?_))
  refine AO (EC (AV ?_))
  by_cases hb:bt (j+1) (argBest bt j)=true
  ·have ea:argBest bt (j+1)=j+1:=by simp only[argBest,hb,if_true]
   rw[hb]
   simp only[if_true]
   refine AO ?_
   refine CN bg1 rfl (AO (EC ?_))
   rw[nm]
   refine AV ⟨Ct B5 _,ih (j+1) _ v _ (by lia) (W.frame _ _ _ st1 λb fb o eb =>?_) (by rw[ea];exact pv) (Ci _ bg1 rfl) λv2 h2 tk2 p2 k2=>hR v2 h2 tk2 p2 λb o nb ns eb=>k2 b o nb ns ?_⟩
   ·exact (BB _ _ (λz:S=b=>nS (z ▸ fb))).trans eb
   ·exact (BB _ _ (C7 ns)).trans (kp b o nb eb)
  ·have ea:argBest bt (j+1)=argBest bt j:=by simp only[argBest,hb];rfl
   rw[E8.mpr hb]
   simp only[Bk,if_false]
   refine AO (EC ?_)
   rw[nm]
   exact AV ⟨Ct B5 _,ih (j+1) _ best c (by lia) st1 (by rw[ea];exact pb) bg1 λv2 h2 tk2 p2 k2=>hR v2 h2 tk2 p2 λb o nb ns eb=>k2 b o nb ns (kp b o nb eb)⟩
theorem first {R:Result->A1->Prop}(W:Walks prog w A.in1 I fp wr n P St){bt:Nat->Nat->Bool}(C:Cmp prog w A.in1 P St bt){S:Addr}(nS:S∉fp)(hn:0<n){s:A1}{c:Nat}(st:St 0 s.heap)(bg:Bag S #[] c s.heap)
  (hR:∀v h' tk,P (argBest bt (n-1)) v->Kept wr S s.heap h'->R (.ok (.ret v)) { s with heap:=h',toks:=tk }):Ff (BJ prog w) A (.builtin "min.loop" ⟨[.ref I,.none,.ref S],[]⟩) R s:=by
 have nw:S∉wr:=λh=>nS (W.sub _ h)
 have nm:(toString "min" ++ toString ".loop" : String) = "min.loop" := by decide
 refine BR Dk ?_
 rw[BH B5 _]
 show Bv _ _ (seqItems? (.ref S) >>= _) _ _ s
 refine AO (DS bg rfl ?_)
 show Bv _ _ (tryCatch (pyNext (.ref I)) _ >>= _) _ _ s
 refine AO (C6 (W.item 0 s _ _ hn st λv h1 tk pv st1 kp =>?_))
 have bg1:=kp S _ nw bg
 show Bv _ _ (updateSeq S (λ_ => #[v,v]) >>= _) _ _ _
 refine AO ?_
 refine CN bg1 rfl ?_
 rw[nm]
 refine AV ⟨Ct B5 _,loop W C nS (n-1) 0 _ v _ (by lia) (W.frame _ _ _ st1 λb fb o eb =>?_) pv (Ci _ bg1 rfl) λv2 h2 tk2 p2 k2=>hR v2 h2 tk2 p2 λb o nb ns eb=>k2 b o nb ns ?_⟩
 ·exact (BB _ _ (λz:S=b=>nS (z ▸ fb))).trans eb
 ·exact (BB _ _ (C7 ns)).trans (kp b o nb eb)
def TI (h:Heap)(t:Addr×List Int):Prop:=∃its:Array AS,IsTup h t.1 its/\DL its.toList t.2
theorem TI.at {h h':Heap}{t:Addr×List Int}(x:TI h t)(e:∀o,h.get? t.1=some o->h'.get? t.1=some o):TI h' t:=let ⟨its,⟨o,ho,r⟩,y⟩:=x;⟨its,⟨o,e o ho,r⟩,y⟩
theorem more (W:Walks prog w A I fp wr n P St)(ts:List (Addr×List Int))(nw:∀t∈ts,t.1∉wr):Walks prog w A I (fp++ts.map (·.1)) wr n P (λi h=>St i h/\∀t∈ts,TI h t) where
 sub:=λb hb=>A7.mpr (.inl (W.sub b hb))
 frame:=λi h h' x hk=>⟨W.frame i h h' x.1 λb hb o e=>hk b (A7.mpr (.inl hb)) o e,λt ht=>(x.2 t ht).at (hk t.1 (A7.mpr (.inr (FD (f:=(·.1)) ht))))⟩
 item:=λi s Q E hi x hQ=>W.item i s Q E hi x.1 λv h' tk pv st' kp=>hQ v h' tk pv ⟨st',λt ht=>(x.2 t ht).at λo=>kp t.1 o (nw t ht)⟩ kp
 done:=λs Q E x hQ=>W.done s Q E x.1 hQ
 self:=λi s Q E x hQ=>W.self i s Q E x.1 hQ
theorem best (g:Nat->List Int):∀k,(argBest (λi j=>HT.lexLt (g i) (g j)) k<=k)/\∀j,j<=k->HT.lexLt (g j) (g (argBest (λi j=>HT.lexLt (g i) (g j)) k))=false
 | 0=>⟨AY _,λj hj=>by rw[II.mp hj];exact Srt.lex_irrefl _⟩
 | k+1=>by
  obtain ⟨l,ih⟩:=best g k
  by_cases hb:HT.lexLt (g (k+1)) (g (argBest (λi j=>HT.lexLt (g i) (g j)) k))=true
  ·have ea:argBest (λi j=>HT.lexLt (g i) (g j)) (k+1)=k+1:=by simp only[argBest,hb,if_true]
   rw[ea]
   refine ⟨AY _,λj hj =>?_⟩
   by_cases e:j=k+1
   ·rw[e];exact Srt.lex_irrefl _
   ·refine E8.mpr λz =>?_
    have:=ih j (by lia)
    rw[Srt.lex_trans _ _ _ z hb] at this
    cases this
  ·have ea:argBest (λi j=>HT.lexLt (g i) (g j)) (k+1)=argBest (λi j=>HT.lexLt (g i) (g j)) k:=by simp only[argBest,hb];rfl
   rw[ea]
   refine ⟨by lia,λj hj =>?_⟩
   by_cases e:j=k+1
   ·rw[e];exact E8.mpr hb
   ·exact ih j (by lia)
end
end L2.MnT
namespace L2
open PySem PySem.Spec PyProof.Rows
section
variable  {X:Cx}
end
end L2
namespace L2.MnT
open PySem PyProof.Rows
section
variable  {prog:Bi}{w:BQ}{A:Cc}{E:AS->A1->Prop}{I:Addr}{fp wr:List Addr}{n:Nat}{P:Nat->AS->Prop}{St:Nat->Heap->Prop}
abbrev eI (ts:List (Addr×List Int)):Nat->Nat->Bool:=λi j=>decide ((ts.getD i (0,[])).2.length<(ts.getD j (0,[])).2.length)
theorem we {s:A1}{t:Addr×List Int}{Q:AS->A1->Prop}(x:TI s.heap t)(hz:t.2.length<2 ^ 63)(h:∀u tk,Q (.int t.2.length u) { s with toks:=tk }):Bv (BJ prog w) A (call (.builtin "len") [.ref t.1]) Q E s:=by
 obtain ⟨its,ht,hi⟩:=x
 have e:its.size=t.2.length:=by rw[<- hi.length,A5]
 refine len_tuple ht (by rw[e];lia) ?_
 rw[e]
 exact h _ _
theorem AG {R:Result->A1->Prop}{ts:List (Addr×List Int)}{kw:List (Str×AS)}(W:Walks prog w A.in1 I fp wr n P St)(hI:∀k h,St k h->∀t∈ts,TI h t)(hP:∀i v,P i v->∃t,ts[i]? = some t/\v = .ref t.1)(hz:∀t∈ts,t.2.length<2 ^ 63){S:Addr}(nS:S∉fp):∀(d j:Nat) (s:A1) (t:Addr×List Int) (tk c:Nat),n=j+1+d->St (j+1) s.heap->ts[argBest (eI ts) j]? = some t->Bag S #[.ref t.1,.int t.2.length tk] c s.heap →
  (∀t h' tk,ts[argBest (eI ts) (n-1)]? = some t->Kept wr S s.heap h'->R (.ok (.ret (.ref t.1))) { s with heap:=h',toks:=tk })->Ff (BJ prog w) A (.builtin "min.loop" ⟨[.ref I,.builtin "len",.ref S],kw⟩) R s:=by
 have nw:S∉wr:=λh=>nS (W.sub _ h)
 have nm:(toString "min" ++ toString ".loop" : String) = "min.loop" := by decide
 intro d
 induction d with
 | zero =>
  intro j s t tk c hn st et bg hR
  have e:j+1=n:=by lia
  rw[e] at st
  refine BR Dk ?_
  rw[BH B5 _]
  show Bv _ _ (seqItems? (.ref S) >>= _) _ _ s
  refine AO (DS bg rfl ?_)
  show Bv _ _ (tryCatch (pyNext (.ref I)) _ >>= _) _ _ s
  refine AO (C6 (W.done s _ _ st λh1 tk kp =>?_))
  show Bv _ _ (updateSeq S (λ_ => #[]) >>= _) _ _ _
  refine AO ?_
  refine CN (kp S _ nw bg) rfl (AO (EC (AV (hR t _ tk (by rw[<- e];exact et) ?_))))
  exact λb o nb ns eb=>(BB _ _ (C7 ns)).trans (kp b o nb eb)
 | succ d ih =>
  intro j s t tk c hn st et bg hR
  refine BR Dk ?_
  rw[BH B5 _]
  show Bv _ _ (seqItems? (.ref S) >>= _) _ _ s
  refine AO (DS bg rfl ?_)
  show Bv _ _ (tryCatch (pyNext (.ref I)) _ >>= _) _ _ s
  refine AO (C6 (W.item (j+1) s _ _ (by lia) st λv h1 tk1 pv st1 kp =>?_))
  obtain ⟨u,eu,rfl⟩:=hP _ _ pv
  have bg1:=kp S _ nw bg
  show Bv _ _ (tryCatch (Fg [Bl u.1] (call (.builtin "len") [.ref u.1])) _ >>= _) _ _ _
  refine AO (C6 (B8 (we (hI _ _ st1 u (A8 eu)) (hz u (A8 eu)) λtu tk2 =>?_)))
  show Bv _ _ (tryCatch (Fg [Bl u.1,.int u.2.length tu] (richCompare .Lt (.int u.2.length tu) (.int t.2.length tk) >>= _)) _ >>= _) _ _ _
  refine AO (C6 (B8 (AO (richCompare_gives (op :=.Lt) (Jc _ _ tu) (Jc _ _ tk) PySem.F.slot_int_lt PySem.F.entry_int_lt (PySem.F.args_int_lt_2 _ _) (gives_int_lt _ _ tu tk) (λx=>nomatch x) ?_))))
  refine AO (B8 (C3 ?_))
  refine AO (EC (AV ?_))
  have eb':eI ts (j+1) (argBest (eI ts) j)=decide (u.2.length<t.2.length):=by
   show decide _=_
   rw[A6,A6,eu,et];rfl
  by_cases hb:u.2.length<t.2.length
  ·have ea:argBest (eI ts) (j+1)=j+1:=by
    show (if eI ts (j+1) (argBest (eI ts) j)=true then _ else _)=_
    rw[eb',if_pos (decide_eq_true hb)]
   rw[show decide ((u.2.length:Int)<(t.2.length:Int))=true from decide_eq_true (by lia)]
   simp only[if_true]
   refine AO ?_
   refine CN bg1 rfl (AO (EC ?_))
   rw[nm]
   refine AV ⟨Ct B5 _,ih (j+1) _ u tu _ (by lia) (W.frame _ _ _ st1 λb fb o eb =>?_) (by rw[ea];exact eu) (Ci _ bg1 rfl) λv2 h2 tk2 p2 k2=>hR v2 h2 tk2 p2 λb o nb ns eb=>k2 b o nb ns ?_⟩
   ·exact (BB _ _ (λz:S=b=>nS (z ▸ fb))).trans eb
   ·exact (BB _ _ (C7 ns)).trans (kp b o nb eb)
  ·have ea:argBest (eI ts) (j+1)=argBest (eI ts) j:=by
    show (if eI ts (j+1) (argBest (eI ts) j)=true then _ else _)=_
    rw[eb',if_neg (by simpa using hb)]
   rw[show decide ((u.2.length:Int)<(t.2.length:Int))=false from decide_eq_false (by lia)]
   simp only[Bk,if_false]
   refine AO (EC ?_)
   rw[nm]
   exact AV ⟨Ct B5 _,ih (j+1) _ t tk c (by lia) st1 (by rw[ea];exact et) bg1 λv2 h2 tk2 p2 k2=>hR v2 h2 tk2 p2 λb o nb ns eb=>k2 b o nb ns (kp b o nb eb)⟩
theorem zQ {R:Result->A1->Prop}{ts:List (Addr×List Int)}{kn:Str}{d:AS}(W:Walks prog w A.in1 I fp wr n P St)(hI:∀k h,St k h->∀t∈ts,TI h t)(hP:∀i v,P i v->∃t,ts[i]? = some t/\v = .ref t.1)(hz:∀t∈ts,t.2.length<2 ^ 63){S:Addr}(nS:S∉fp){s:A1}{c:Nat}(st:St 0 s.heap)(bg:Bag S #[] c s.heap)
  (hR:∀v h' tk,((0<n/\∃t,ts[argBest (eI ts) (n-1)]? = some t/\v = .ref t.1)\/(n=0/\v=d))->Kept wr S s.heap h'->R (.ok (.ret v)) { s with heap:=h',toks:=tk }):Ff (BJ prog w) A (.builtin "min.loop" ⟨[.ref I,.builtin "len",.ref S],[(kn,d)]⟩) R s:=by
 have nw:S∉wr:=λh=>nS (W.sub _ h)
 have nm:(toString "min" ++ toString ".loop" : String) = "min.loop" := by decide
 refine BR Dk ?_
 rw[BH B5 _]
 show Bv _ _ (seqItems? (.ref S) >>= _) _ _ s
 refine AO (DS bg rfl ?_)
 show Bv _ _ (tryCatch (pyNext (.ref I)) _ >>= _) _ _ s
 by_cases hn:n=0
 ·subst hn
  refine AO (C6 (W.done s _ _ st λh1 tk kp =>?_))
  exact AO (D3 (AV (hR d h1 tk (.inr ⟨rfl,rfl⟩) λb o nb _ eb=>kp b o nb eb)))
 refine AO (C6 (W.item 0 s _ _ (by lia) st λv h1 tk pv st1 kp =>?_))
 obtain ⟨u,eu,rfl⟩:=hP _ _ pv
 have bg1:=kp S _ nw bg
 show Bv _ _ (tryCatch (Fg [Bl u.1] (call (.builtin "len") [.ref u.1])) _ >>= _) _ _ _
 refine AO (C6 (B8 (we (hI _ _ st1 u (A8 eu)) (hz u (A8 eu)) λtu tk2 =>?_)))
 show Bv _ _ (updateSeq S (λ_ => #[.ref u.1,.int u.2.length tu]) >>= _) _ _ _
 refine AO ?_
 refine CN bg1 rfl ?_
 rw[nm]
 refine AV ⟨Ct B5 _,AG W hI hP hz nS (n-1) 0 _ u tu _ (by lia) (W.frame _ _ _ st1 λb fb o eb =>?_) eu (Ci _ bg1 rfl) λt2 h2 tk2 p2 k2=>hR _ h2 tk2 (.inl ⟨by lia,t2,p2,rfl⟩) λb o nb ns eb=>k2 b o nb ns ?_⟩
 ·exact (BB _ _ (λz:S=b=>nS (z ▸ fb))).trans eb
 ·exact (BB _ _ (C7 ns)).trans (kp b o nb eb)
theorem uN (a f d:AS):argsOk "min" ⟨[a],[("key",f),("default",d)]⟩:=by unfold argsOk;kernel_rfl
theorem AH {s:A1}{l:Addr}{its:Array AS}{ts:List (Addr×List Int)}{d:AS}{Q:AS->A1->Prop}(hh:A.handled=none)(hl:s.heap.IsList l its)(hT:∀t∈ts,TI s.heap t)(hP:∀(i:Nat) (v:AS),its[i]? = some v->∃t,ts[i]? = some t/\v = .ref t.1)(hz:∀t∈ts,t.2.length<2 ^ 63)
  (h:∀v h' tk,((0<its.size/\∃t,ts[argBest (eI ts) (its.size-1)]? = some t/\v = .ref t.1)\/(its.size=0/\v=d))->(∀b o,s.heap.get? b=some o->h'.get? b=some o)->Q v { s with heap:=h',toks:=tk }) :
  Bv (BJ prog w) A (call (.builtin "min") [.ref l] [("key",.builtin "len"),("default",d)]) Q E s:=by
 have nm:(toString "min" ++ toString ".loop" : String) = "min.loop" := by decide
 have hlt:∀t∈ts,t.1<s.heap.objs.size:=λt ht=>by
  obtain ⟨_,⟨o,ho,_⟩,_⟩:=hT t ht
  exact Bc ho
 have hpl:l<s.heap.objs.size:=by obtain ⟨_,e,_⟩:=hl;exact Bc e
 refine Ia (Fv PySem.F.plain_min PySem.F.entry_min ?_)
 have hg:Bv (BJ prog w) A.in1 (Builtin.«min» ⟨[.ref l],[("key",.builtin "len"),("default",d)]⟩) (λfin s'=>match fin with
   | .done f=>(match (Except.ok f:Result) with | .ok (.ret v)=>Q v s' | .ok _=>False | .error e=>E e s')
   | .again c'=>c'.quiet=true/\Ff (BJ prog w) A c' (λr s'=>match r with | .ok (.ret v)=>Q v s' | .ok _=>False | .error e=>E e s') s') E s:=by
  show Bv _ A.in1 (Builtin.Builtins.bindParams "min" ["key", "default"] 0 ⟨[],[("key",.builtin "len"),("default",d)]⟩ >>= _) _ _ s
  refine AO (Hk (a:=[some (.builtin "len"),some d]) rfl ?_)
  refine AO (AV ?_)
  refine AO (Fd hl ?_)
  refine AO (B9 ?_)
  have W:=more (Ja (prog:=prog) (w:=w) (A:=A.in1) hh s.heap.objs.size l (Bz hpl) its) ts (λt ht hm=>by
   have:=hlt t ht
   rw[AZ.mp hm] at this
   exact Cp _ this)
  rw[nm]
  refine AV ⟨Ct B5 _,zQ W (λk h x=>x.2) hP hz ?_ ⟨⟨⟨_,AU _ (Bd _ rfl),rfl,rfl⟩,(hl.push _).push _⟩,λt ht=>(hT t ht).at λo e=>AU _ (AU _ e)⟩ (Bd _ rfl) λv h' tk hv kp =>?_⟩
  ·intro hm
   rw[DC] at hm
   rcases A7.mp hm with hm | hm
   ·rcases Bs.mp hm with e | hm
    ·exact Nat.succ_ne_self _ e
    ·have:=AZ.mp hm
     rw[<- this] at hpl
     exact Cp _ (DX hpl)
   ·obtain ⟨t,ht,e⟩:=Bh.mp hm
    have:=hlt t ht
    rw[e] at this
    exact Cp _ (DX this)
  ·refine h v h' tk hv λb o e=>kp b o (λhm =>?_) (λz =>?_) (AU _ (AU _ e))
   ·have:=Bc e
    rw[AZ.mp hm] at this
    exact Cp _ this
   ·have:=Bc e
    rw[z,DC] at this
    exact Cp _ (DX this)
 simp only[checkBuiltinCall,PySem.F.kind_min]
 cases hsig:Manifest.signature? "min" with
 | none=>exact AV hg
 | some sig =>
  have ha':Bind.checkArgs "min" sig ⟨[.ref l],[("key",.builtin "len"),("default",d)]⟩=pure ():=by simpa only[argsOk,hsig] using uN (.ref l) (.builtin "len") d
  simp only[ha']
  exact AV hg
end
end L2.MnT
namespace L2
open PySem PySem.Spec PyProof.Rows
theorem MnT.wg (g:Nat->Nat):∀k,∀j,j<=k->g (argBest (λi j=>decide (g i<g j)) k)<=g j
 | 0,j,hj=>by rw[II.mp hj];exact AY _
 | k+1,j,hj=>by
  have ih:=MnT.wg g k
  by_cases hb:g (k+1)<g (argBest (λi j=>decide (g i<g j)) k)
  ·have ea:argBest (λi j=>decide (g i<g j)) (k+1)=k+1:=by simp only[argBest,decide_eq_true hb,if_true]
   rw[ea]
   by_cases e:j=k+1
   ·rw[e];exact AY _
   ·have:=ih j (by lia);lia
  ·have ea:argBest (λi j=>decide (g i<g j)) (k+1)=argBest (λi j=>decide (g i<g j)) k:=by simp only[argBest,decide_eq_false hb];rfl
   rw[ea]
   by_cases e:j=k+1
   ·rw[e];lia
   ·exact ih j (by lia)
section
variable  {X:Cx}
end
open PySem PySem.Spec PyProof.Rows
theorem MnT.yF (g:Nat->Nat):∀k,∀j,j<argBest (λi j=>decide (g i<g j)) k->g (argBest (λi j=>decide (g i<g j)) k)<g j
 | 0,j,hj=>absurd hj (DZ _)
 | k+1,j,hj=>by
  by_cases hb:g (k+1)<g (argBest (λi j=>decide (g i<g j)) k)
  ·have ea:argBest (λi j=>decide (g i<g j)) (k+1)=k+1:=by simp only[argBest,decide_eq_true hb,if_true]
   rw[ea] at hj ⊢
   have:=MnT.wg g k j (by lia)
   lia
  ·have ea:argBest (λi j=>decide (g i<g j)) (k+1)=argBest (λi j=>decide (g i<g j)) k:=by simp only[argBest,decide_eq_false hb];rfl
   rw[ea] at hj ⊢
   exact MnT.yF g k j hj
section
variable  {X:Cx}
def wj (K:A0)(te:TE):TE:=λσ H Q=>te σ H λx H1=>∃(p:Addr) (ts:List (Addr×List Int)),[x]=[.ref p]/\SqL K H1 p (ts.map λt =>.ref t.1)/\(∀t∈ts,SqT K H1 t.1 (t.2.map V.int))/\(ts=[]->Q .non H1)/\∀(i:Nat) (t:Addr×List Int),ts[i]? = some t->(∀u∈ts,t.2.length<=u.2.length)->(∀(j:Nat) (u:Addr×List Int),j<i->ts[j]? = some u->t.2.length<u.2.length)->Q (.ref t.1) H1
theorem qY {e:Expr}{te:TE}{j:Nat}{p p2 p3 pos kpos kpos2:Pos}(hc:X.calm=true)(hg:Gl X "min")(hm:X.mg "min" = none)(hg2:Gl X "len")(hm2:X.mg "len" = none)(hv:Cu "min" = some (.builtin "min"))(he:PE X e te)
    (hs:Cm (e :: []) X.env=(false,eval e X.env) :: Cm [] X.env:=by rfl)
    (ha:E4 pos (Cm (e :: []) X.env)=(false,eval e X.env) :: E4 pos (Cm [] X.env):=by rfl)
    (hplain:(E4 pos (Cm (e :: []) X.env)).any (·.1)=false:=by rfl) :
    PE X (.Call (.Name "min" p) [e] [⟨some "key",.Name "len" p2,kpos⟩,⟨some "default",.Constant .none j p3,kpos2⟩] pos) (wj X.K te):=by
  intro pins s σ H Q I h
  refine EZ (jj I hg hm hv ?_)
  refine PyProof.Rows.callWith_kw (thn ((aa he ab hs) pos pins s σ H (λvs H1=>∃(p:Addr) (ts:List (Addr×List Int)),vs=[.ref p]/\SqL X.K H1 p (ts.map λt:Addr×List Int=>V.ref t.1)/\(∀t∈ts,SqT X.K H1 t.1 (t.2.map V.int))/\(ts=[]->Q .non H1)/\∀(i:Nat) (t:Addr×List Int),ts[i]? = some t->(∀u∈ts,t.2.length<=u.2.length)->(∀(j:Nat) (u:Addr×List Int),j<i->ts[j]? = some u->t.2.length<u.2.length)->Q (.ref t.1) H1) I h) λus s1 ⟨vs,H1,I1,r1,q1⟩ =>?_) ha hplain rfl rfl
  show Bv _ _ (evalAll ((do let v ← eval (.Name "len" p2) X.env;standAt pos;pure v) :: (do let v ← eval (.Constant .none j p3) X.env;standAt pos;pure v) :: [])) _ _ s1
  refine HP (AO (jj I1 hg2 hm2 PySem.boot_len (AO (Fx (AV ?_)))))
  refine HP (AO (Constant_none (AO (Fx (AV (wpAny_evalAll_nil ?_))))))
  show Bv _ _ (call (.builtin "min") us [("key",.builtin "len"),("default",.none)]) _ _ s1
  obtain ⟨a,ts,rfl,hq,ht,q0,q⟩:=q1
  obtain ⟨u,rfl,ru⟩:=vals1 r1
  cases (show u=Bl a from ru)
  obtain ⟨its,rv,p1,_⟩:=I1.list hq
  have ll:=rv.length
  rw[AN] at ll
  refine MnT.AH (ts:=ts) (I1.ok.hd hc) p1.isList (λt h' =>?_) (λi v hv =>?_) (λt h' =>?_) λv h' tk hv k =>?_
  · obtain ⟨i2,r2,p2,_⟩:=I1.tuple (ht t h')
    exact ⟨_,p2,intsAre_of r2⟩
  · rw[Cj] at hv
    have hi:i<ts.length:=by rw[ll];exact (AW.mp hv).1
    have e1:(ts.map λt=>V.ref t.1)[i]? = some (.ref ts[i].1):=by rw[A4,AQ hi];rfl
    obtain ⟨w',ew,rw'⟩:=rv.get e1
    rw[ew] at hv
    exact ⟨ts[i],AQ hi,(BC hv).symm.trans rw'⟩
  · obtain ⟨i2,r2,p2,z2⟩:=I1.tuple (ht t h')
    rw[AN,EB] at z2
    lia
  · rw[AX, <- ll] at hv
    rcases hv with ⟨hn,t,et,rfl⟩ | ⟨hn,rfl⟩
    · refine ⟨.ref t.1,H1,I1.kept k,rfl,q _ t et (λu hu =>?_) λj u hj eu =>?_⟩
      · obtain ⟨i,hi,eu⟩:=Ez hu
        have:=MnT.wg (λi=>(ts.getD i (0,[])).2.length) (ts.length-1) i (by lia)
        rw[A6,A6,et,AQ hi,eu] at this
        exact this
      · have:=MnT.yF (λi=>(ts.getD i (0,[])).2.length) (ts.length-1) j hj
        rw[A6,A6,et,eu] at this
        exact this
    · exact ⟨.non,H1,I1.kept k,rfl,q0 (ET.mp hn)⟩
end
end L2
namespace Srt
open PySem PyProof.Rows
section
variable  {prog:Bi}{w:BQ}{A:Cc}{E:AS->A1->Prop}{s:A1}{O:Fw}{key:AS->O.α}
end
section
variable  {prog:Bi}{w:BQ}{s:A1}
end
end Srt
namespace L2
open PySem PySem.Spec PyProof.Rows
section
variable  {X:Cx}
def wm (us ws:List (Addr×List Int))(j:Nat):Bool:=decide ((us.map (·.2)).getD j []=(ws.map (·.2)).getD j [])
theorem uO {us ws:List (Addr×List Int)}(h:us.length=ws.length):((Bw us.length).all λj=>wm us ws j)=decide (us.map (·.2)=ws.map (·.2)):=by
 rw[C8,decide_eq_true_iff,CD]
 constructor
 ·intro hh
  refine Eu (by rw[AN,AN];exact h) λj h1 h2 =>?_
  have:=of_decide_eq_true (hh j (Cg.mpr (by rw[AN] at h1;exact h1)))
  rw[A6,A6,AQ h1,AQ h2] at this
  exact this
 ·intro e j _
  exact decide_eq_true (by rw[e])
theorem yG {us:List (Addr×List Int)}{its:List AS}(r:Vals (us.map λu=>V.ref u.1) its){j:Nat}(h:j<its.toArray.size):∃u,us[j]? = some u/\its.toArray[j] = .ref u.1:=by
 have e:=dh r
 subst e
 rw[AX,AN] at h
 exact ⟨us[j],AQ h,by simp⟩
theorem sN {k:Nat}(hr:cM k X.A):OpR X (CP .NotEq) (λx y H Q=>∃(a b:Addr) (us ws:List (Addr×List Int)),x = .ref a/\y = .ref b/\H a=some (.lst (us.map λu =>.ref u.1))/\H b=some (.lst (ws.map λu =>.ref u.1))/\(∀u∈us,H u.1=some (.tup (u.2.map V.int)))/\(∀u∈ws,H u.1=some (.tup (u.2.map V.int)))/\Q (.bl (!decide (us.map (·.2)=ws.map (·.2)))) H):=by
 intro pins s σ H x y v u Q I rx ry h
 obtain ⟨a,b,us,ws,rfl,rfl,h1,h2,t1,t2,q⟩:=h
 cases (show v=Bl a from rx)
 cases (show u=Bl b from ry)
 obtain ⟨its,r1,p1,_⟩:=I.list (SqL.of (K:=X.K) h1)
 obtain ⟨its2,r2,p2,_⟩:=I.list (SqL.of (K:=X.K) h2)
 have l1:=r1.length
 have l2:=r2.length
 rw[AN] at l1 l2
 have hu:=hr.un
 have hu1:X.A.units<cLine:=by lia
 by_cases hl:us.length=ws.length
 ·have R:=SeqAt.RcNeAt.lists (A:=X.A) (e:=wm us ws) p1.isList p2.isList (by rw[AX,AX];lia) hu1 (by
   intro j h1 h2
   obtain ⟨u,eu,g1⟩:=yG r1 h1
   obtain ⟨w,ew,g2⟩:=yG r2 h2
   rw[g1,g2]
   have:=I.eqT (A:=X.A.in1) (by rw[Around.in1_units];lia) (SqT.of (t1 u (A8 eu))) (SqT.of (t2 w (A8 ew)))
   unfold wm
   rw[A6,A6,A4,A4,eu,ew]
   exact this)
  rw[AX, <- l1,uO hl] at R
  exact R _ _ _ _ ⟨.bl _,H,I,rfl,q⟩
 ·have ne:us.map (·.2)≠ws.map (·.2):=λz=>hl (by have:=congrArg List.length z;simpa using this)
  rw[decide_eq_false ne] at q
  exact SeqAt.RcNeAt.lists_lengths (A:=X.A) p1.isList p2.isList (by simp;lia) hu1 _ _ _ _ ⟨.bl true,H,I,rfl,q⟩
end
open PySem PySem.Spec PyProof.Rows
section
variable  {X:Cx}
variable  {o e:Expr}{es:List Expr}{to:TE}{t:TA}{name:Str}{apos cpos:Pos}{T id:String}{r:V->List V->Hp->VK->Prop}
theorem wo {K:A0}(pa:PlainAttrs T)(slot:Slot T name id)(hty:typeOf (.builtin id)=pure (.type "method_descriptor"))(hm:MtR X id r)(ho:PE X o to)(ha:PA X (e :: es) t)(hK:X.K=K:=by rfl)
  (hbase:attributeBase o name X.env (eval o X.env)=eval o X.env:=by rfl)
  (hfew:((E4 cpos (Cm (e :: es) X.env)).all (λx => !x.1) && (backToKw cpos (keywordEach [] X.env)).all (λx=>x.1.isSome)
   && decide ((e :: es).length+([]:List Keyword).length+(if ([]:List Keyword).isEmpty then 0 else 1)<30))=true:=by rfl)
  (hline:(apos.endLine == cpos.line)=true:=by rfl) (hs:Cm (e :: es) X.env=(false,eval e X.env) :: Cm es X.env:=by rfl) (hplain:(E4 cpos (Cm es X.env)).any (·.1)=false:=by rfl) :
  PE X (.Call (.Attribute o name apos) (e :: es) [] cpos) (tBM K T r to t):=by
 subst hK
 exact cz pa slot hty hm ho ha hbase hfew hline hs hplain
end
open PySem PySem.Spec PyProof.Rows
theorem nH {α β:Type}{f:α -> Option β}{g:α -> β}:∀{l:List α},(∀k∈l,f k=some (g k))->l.filterMap f=l.map g
 | [],_=>rfl
 | x :: l,h=>by
  rw[Ew,h x Be,BF,nH λk hk=>h k (Br _ hk)]
end L2
namespace HT
open PySem PyProof.Rows
section
variable  {prog:Bi}{w:BQ}{A:Cc}{E:AS->A1->Prop}{s:A1}
theorem qZ (n:Nat):Builtin.Slice.sliceAdjust none none (-1) (n:Int)=((n:Int)-1, -1):=by
 unfold Builtin.Slice.sliceAdjust
 simp
theorem q8 (n:Nat):Builtin.Slice.slicePlaces ((n:Int)-1) (-1) (-1)=n:=by
 unfold Builtin.Slice.slicePlaces
 simp
 lia
theorem jz {sl:Addr}{t:Tok}{n:Nat}{Q:Int×Int×Nat->A1->Prop}(hs:s.heap.IsSliceOf sl .none .none (.int (-1) t))
  (h:Q ((n:Int)-1, -1,n) s):Bv (BJ prog w) A (Builtin.Slice.sliceApplied (.ref sl) (pure (n:Int))) Q E s:=by
 obtain ⟨os,hos,hcs,hds⟩:=id hs
 unfold Builtin.Slice.sliceApplied Builtin.Slice.sliceFields
 refine AO (AO (FF hos hds (x :=.none) rfl (AO (FF hos hds (x :=.none) rfl (AO (FF hos hds (x :=.int (-1) t) rfl (AV ?_)))))))
 refine AO (slicePart_int ?_)
 show Bv _ _ (if ((-1:Int) == 0)=true then _ else _) _ _ s
 rw[if_neg (by decide)]
 refine AO (F0 (AO (F0 (AO (AV ?_)))))
 show Bv _ _ (match Builtin.Slice.sliceAdjust none none (-1) (n:Int) with | (lo,hi)=>pure (lo,(-1:Int),Builtin.Slice.slicePlaces lo hi (-1))) _ _ s
 rw[qZ n]
 show Bv _ _ (pure ((n:Int)-1,(-1:Int),Builtin.Slice.slicePlaces ((n:Int)-1) (-1) (-1))) _ _ s
 rw[q8]
 exact AV h
theorem AI (xs:List AS):((Bw xs.length).filterMap λ(m:Nat)=>xs.toArray[(((xs.length:Int)-1)+(m:Int)*(-1)).toNat]?).toArray=xs.reverse.toArray:=by
 congr 1
 have h1:∀k∈Bw xs.length,xs.toArray[(((xs.length:Int)-1)+(k:Int)*(-1)).toNat]? = some (xs.reverse.getD k .none):=λk hk=>by
  have hk':=Cg.mp hk
  have:(((xs.length:Int)-1)+(k:Int)*(-1)).toNat=xs.length-1-k:=by omega
  rw[this,Cj,A6,List.getElem?_reverse hk',AQ (show xs.length-1-k<xs.length by omega)]
  rfl
 rw[L2.nH h1]
 apply Eu
 ·rw[AN,Dm,D9]
 ·intro n h2 h3
  rw[Iy,HE,A6,AQ h3]
  rfl
theorem iW {t sl:Addr}{its:List AS}{tk:Tok}{Q:AS->A1->Prop}(ht:IsTup s.heap t its.toArray)(hs:s.heap.IsSliceOf sl .none .none (.int (-1) tk))
  (h:Q (.ref s.heap.objs.size) { s with heap:=s.heap.push { cls :=.type "tuple",data :=.seq its.reverse.toArray } })
  (hsz:its.length<=Ba):Bv (BJ prog w) A (getItem (.ref t) (.ref sl)) Q E s:=by
 have htake:sizeOk (.seq its.reverse.toArray):=by
  show its.reverse.toArray.size<=Ba
  rw[AX,D9];exact hsz
 obtain ⟨os,hos,hcs,hds⟩:=id hs
 have hTs:s.TypeIs (.ref sl) "slice" :=⟨os,hos,hcs⟩
 unfold getItem
 try with_reducible refine B8 ?_
 first | refine AO (AV ?_) | skip
 refine AO (Ge ht.typeIs (by decide) ?_)
 refine AO (Ed (name:=Str.ofString "__getitem__") ht.typeIs B3
  (Dx B3 ht.typeIs entry_tuple_getitem ?_ (FQ _ _)))
 show Bv _ _ (Builtin.Tuple.tupleItemsOf (.ref t) >>= _) _ _ s
 refine AO (HH ht ?_)
 refine AO (Dr hTs ?_)
 rw[if_pos (by decide)]
 refine AO (jz hs ?_)
 have hno:¬ (((((its.toArray.size:Nat):Int)-1) == 0 && (-1:Int) == 1 && its.toArray.size == its.toArray.size)=true):=by
  intro q
  rw[Cv,Cv] at q
  have:=q.1.2
  revert this
  decide
 show Bv _ _ (if ((((its.toArray.size:Nat):Int)-1) == 0 && (-1:Int) == 1 && its.toArray.size == its.toArray.size)=true then _ else _) _ _ s
 rw[if_neg hno,AX,AI]
 first
  | exact AO (m:=Builtin.Tuple.tupleExact _) (B9 (AV ⟨_,rfl,AV h⟩) htake)
  | exact AO (m:=Builtin.Tuple.tupleExact _) (B9 (AO (AV (AV ⟨_,rfl,AV h⟩))) htake)
  | exact AO (AO (m:=Builtin.Tuple.tupleExact _) (B9 (AV (AV ⟨_,rfl,AV h⟩)) htake))
  | exact AO (AO (m:=Builtin.Tuple.tupleExact _) (B9 (AV ⟨_,rfl,AV h⟩) htake))
end
end HT
namespace L2
open PySem PySem.Spec PyProof.Rows
def AJ (K:A0)(te:TE):TE:=λσ H Q=>te σ H λx H1=>∃a xs,x = .ref a/\SqT K H1 a xs/\∀p,H1 p=none->Q (.ref p) (upd H1 p (.tup xs.reverse))
theorem yc {X:Cx}{e:Expr}{te:TE}{j:Nat}{p1 p2 p3 pos:Pos}(he:PE X e te):PE X (.Subscript e (.Slice none none (some (.UnaryOp .USub (.Constant (.int 1) j p1) p3)) p2) pos) (AJ X.K te):=by
 intro pins s σ H Q I h
 refine Subscript_ (thn (he pins s σ H _ I h) λv s1 ⟨x,H1,I1,r1,q1⟩ =>?_)
 obtain ⟨a,xs,rfl,hx,q⟩:=q1
 cases r1
 refine wpAny_Slice ?_
 rw[HI]
 refine AV (AV ?_)
 rw[evalPart_some]
 have un:PE X (.UnaryOp .USub (.Constant (.int 1) j p1) p3) _:=yy vx ah
 refine thn (un pins s1 σ H1 (λy H'=>y = .int (-1)/\H'=H1) I1 ⟨1,rfl,rfl,rfl⟩) λu s2 ⟨y,H2,I2,r2,ey,eH⟩ =>?_
 subst ey eH
 obtain ⟨t,rfl⟩:=r2
 have I4:Inv X pins σ H2 { s2 with heap:=s2.heap.push { cls :=.type "slice",data :=.fields #[.none,.none,.int (-1) t] } }:=I2.kept (t':=s2.toks) λb ob q=>AU _ q
 obtain ⟨its,r,ht,hz⟩:=I4.tuple hx
 have hlen:=r.length
 show Bv (BJ X.prog X.w) X.A (subscriptTail e (.Slice none none (some (.UnaryOp .USub (.Constant (.int 1) j p1) p3)) p2) (.ref a) (.ref s2.heap.objs.size)) (EP X pins σ Q) X.xe { s2 with heap:=s2.heap.push { cls :=.type "slice",data :=.fields #[.none,.none,.int (-1) t] } }
 refine tail_any (ops:=[.ref a,.ref s2.heap.objs.size]) ht.typeIs B3.lookup ?_ (by with_unfolding_all rfl)
 refine HT.iW ht (Hr ..) ?_ (by lia)
 refine ⟨.ref _,_,I4.laid (t':=s2.toks) (o :=.tup xs.reverse) (λb ob q=>AU _ q) (AY _) ?_,rfl,q _ (I4.hok.fresh (AY _))⟩
 exact ⟨by rw[D9];exact hz,_,Vals.reverse r,cV.new _ _⟩
open PySem PySem.Spec PyProof.Rows
def bM (K:A0)(x:Str)(st:Stmt):Prop:=∃(f:Addr) (od an:Option Addr) (sl:Array (Option AS)) (oc kV dc pm cd ct:AS),CS K Cf x=some (some (.ref f))/\K.lookup f=some ⟨oc,od,.func (PySem.W.fnOf x x (dD st) (cg st) (ak st) .none kV dc pm an cd ct),sl⟩/\PySem.W.codeIn K cd x=true/\PySem.W.keepIn K (.ref f)=true
theorem bM.mk {K:A0}{x:Str}{st:Stmt}{f:Addr}{od an:Option Addr}{sl:Array (Option AS)}{oc kV dc pm cd ct:AS}(a:CS K Cf x=some (some (.ref f)))(l:K.lookup f=some ⟨oc,od,.func (PySem.W.fnOf x x (dD st) (cg st) (ak st) .none kV dc pm an cd ct),sl⟩)(c:PySem.W.codeIn K cd x=true)(k:PySem.W.keepIn K (.ref f)=true):bM K x st:=⟨_,_,_,_,_,_,_,_,_,_,a,l,c,k⟩
theorem bM.cal {K:A0}{x:Str}{st:Stmt}(hf:bM K x st)(P:Bi)(w:BQ)(base:Heap){h:Heap}{mg:Str->Option AS}(X:K.In h)(G:h.Ns Cf mg){lv:Nat}{ps:List Str}{sp:Sp}(ok:∀{f:Addr} {fd:Cd},Fun K x x st f fd->bB P w K mg base CX0 lv f fd ps sp)
  (hb:∀(kV doc pm:AS) (an:Option Addr) (cdv ct:AS) (us:List AS),us.length=ps.length->bindArgs (PySem.W.fnOf x x (dD st) (cg st) (ak st) .none kV doc pm an cdv ct) ⟨us,[]⟩=pure (ps.zip us)):Cal P w K mg base lv x ps sp:=by
 obtain ⟨f,od,an,sl,oc,kV,dc,pm,cd,ct,a,l,c,k⟩:=hf
 have F:=vG l c k
 exact ⟨_,_,ok F,Jg X G a,k,F.binds hb⟩
end L2
set_option maxHeartbeats 800000
namespace K57
open PySem L2
def top (i:Nat):Stmt:=PySem.Challenge.pw_ringfell_k57_ranks_and_knots.main.body.getD i (.Pass ⟨0,0,0,0⟩)
abbrev fz:Stmt:=top 1
abbrev jA:Stmt:=top 3
abbrev lA:Stmt:=top 4
abbrev ia:Stmt:=top 5
abbrev dM:Stmt:=top 6
abbrev ib:Stmt:=top 7
abbrev eJ:Stmt:=top 9
abbrev fY:Stmt:=top 10
abbrev fZ:Stmt:=top 12
abbrev jB:Stmt:=top 13
abbrev f6:Stmt:=top 14
abbrev lD:Stmt:=top 15
abbrev ic:Stmt:=top 16
abbrev f7:Stmt:=top 17
abbrev lE:Stmt:=top 18
abbrev dO:Stmt:=top 19
abbrev jC:Stmt:=top 20
abbrev lG:Stmt:=top 22
abbrev q9:Stmt:=top 23
abbrev lH:Stmt:=top 24
abbrev fA:Stmt:=top 25
abbrev rf:Stmt:=top 26
abbrev f9:Stmt:=top 27
abbrev jD:Stmt:=top 28
abbrev oq:Stmt:=top 29
abbrev ot:Stmt:=top 30
abbrev ou:Stmt:=top 31
abbrev ow:Stmt:=top 32
abbrev dP:Stmt:=top 33
abbrev jE:Stmt:=top 34
abbrev rh:Stmt:=top 35
abbrev gf:Stmt:=top 36
abbrev pZ:Stmt:=top 37
structure Blt (mg:Str->Option AS):Prop where
 b_all:mg "all" = none
 b_bool:mg "bool" = none
 b_int:mg "int" = none
 b_isinstance:mg "isinstance" = none
 b_len:mg "len" = none
 b_list:mg "list" = none
 b_max:mg "max" = none
 b_min:mg "min" = none
 b_range:mg "range" = none
 b_set:mg "set" = none
 b_sorted:mg "sorted" = none
 b_tuple:mg "tuple" = none
 b_ValueError:mg "ValueError" = none
theorem ox:Cu "all" = some (.builtin "all"):=by decide +kernel
theorem sO:Cu "bool" = some (.type "bool"):=by decide +kernel
theorem zR:Cu "int" = some (.type "int"):=by decide +kernel
theorem bN:Cu "isinstance" = some (.builtin "isinstance"):=by decide +kernel
theorem cj:Cu "len" = some (.builtin "len"):=by decide +kernel
theorem iX:Cu "list" = some (.type "list"):=by decide +kernel
theorem zS:Cu "max" = some (.builtin "max"):=by decide +kernel
theorem oy:Cu "min" = some (.builtin "min"):=by decide +kernel
theorem gg:Cu "range" = some (.type "range"):=by decide +kernel
theorem wq:Cu "set" = some (.type "set"):=by decide +kernel
theorem cC:Cu "sorted" = some (.builtin "sorted"):=by decide +kernel
theorem aX:Cu "tuple" = some (.type "tuple"):=by decide +kernel
theorem hu8 {A:Cc}{k:Nat}(hr:cM k A):A.units+8<cLine:=EO (Ex (by decide:8<=64) _) hr.units
structure Ow (H:Hp)(b:Addr)(m:Int)(ts:List (Addr×List Int)):Prop where
 at':∃t,H b=some (.tup [.int m,.ref t])/\H t=some (.tup (ts.map λu =>.ref u.1))
 tup:Tus H ts
 rng:∀u∈ts,∃x y,u.2=[x,y]/\0<=x/\x<m/\0<=y/\y<m
theorem Ow.same {H H':Hp}{b:Addr}{m:Int}{ts:List (Addr×List Int)}(W:Ow H b m ts)(s:ay H H'):Ow H' b m ts:=by
 obtain ⟨t,e1,e2⟩:=W.at'
 exact ⟨⟨t,s _ _ e1,s _ _ e2⟩,W.tup.same s,W.rng⟩
theorem Ow.bu {n:Nat}{p:Addr}{H H':Hp}{b:Addr}{m:Int}{ts:List (Addr×List Int)}(W:Ow H b m ts)(u:Bu n p H H')(h:Pt n H p):Ow H' b m ts:=by
 obtain ⟨t,e1,e2⟩:=W.at'
 exact ⟨⟨t,u.tup h e1,u.tup h e2⟩,W.tup.bu u h,W.rng⟩
def rgI (m:Nat):List Int:=(Bw m).map λi:Nat=>(i:Int)
theorem bG {m:Nat}{v:Int}:v∈rgI m↔0<=v/\v<m:=by
 unfold rgI
 rw[Bh]
 constructor
 ·rintro ⟨i,hi,rfl⟩
  have:=Cg.mp hi
  lia
 ·intro h
  exact ⟨v.toNat,Cg.mpr (by lia),by lia⟩
theorem wt:∀m:Nat,(rgI m).Pairwise (· < ·):=λm=>by
 unfold rgI
 rw[BW]
 exact (Eh (n:=m)).imp λ{a b} h=>by lia
theorem uP (m:Nat):(rgI m).Nodup:=(wt m).imp λ{a b} h=>by lia
theorem dE (m:Nat):(rgI m).length=m:=by unfold rgI;simp
theorem bA {R:List Int}{m:Nat}(nd:R.Nodup)(h:∀v∈R,0<=v/\v<m):R.length<=m:=by
 have:=Dq nd (l₂:=rgI m) λv hv=>bG.mpr (h v hv)
 rwa [dE] at this
def Fr (E:List (List Int))(rk:List Int)(p:Int):Prop:=∀a,[a,p]∈E->a∈rk
structure Nx (m:Nat)(E:List (List Int))(rk:List Int)(p:Int):Prop where
 p0:0<=p
 pm:p<m
 nm:p∉rk
 fr:Fr E rk p
def Gr (m:Nat)(E:List (List Int))(G:List Int):Prop:=G.Nodup/\∀i p,G[i]? = some p->Nx m E (G.take i) p/\∀q,Nx m E (G.take i) q->p<=q
def Stk (m:Nat)(E:List (List Int))(G:List Int):Prop:=∀p,¬ Nx m E G p
section
variable  {m:Nat}{E:List (List Int)}{G:List Int}
theorem Gr.nil:Gr m E []:=⟨CB,λi p e=>by simp at e⟩
theorem Gr.snoc {p:Int}(h:Gr m E G)(n:Nx m E G p)(le:∀q,Nx m E G q->p<=q):Gr m E (G++[p]):=by
 refine ⟨?_,λi x e =>?_⟩
 ·rw[DE]
  exact ⟨h.1,Cq.mpr ⟨by simp,CB⟩,λa ha b hb e=>by rw[AZ] at hb;subst hb;subst e;exact n.nm ha⟩
 ·rcases D6 i G.length with c | c
  ·rw[BK c] at e
   rw[CG (by lia)]
   exact h.2 i x e
  ·have l:=(AW.mp e).1
   rw[AR] at l
   have l':i<G.length+1:=l
   have:i=G.length:=by lia
   subst this
   have e':p=x:=by simpa using e
   subst e'
   rw[CG (AY _),Bb (AY _)]
   exact ⟨n,le⟩
theorem Gr.rng (h:Gr m E G):∀v∈G,0<=v/\v<m:=λv hv=>by
 obtain ⟨i,e⟩:=Bj.mp hv
 have:=(h.2 i v e).1
 exact ⟨this.p0,this.pm⟩
theorem Gr.len (h:Gr m E G):G.length<=m:=bA h.1 h.rng
theorem Gr.uniq {G':List Int}(h:Gr m E G)(h':Gr m E G'):∀i,i<=G.length->i<=G'.length->G.take i=G'.take i
 | 0,_,_=>rfl
 | i+1,l,l'=>by
  have ih:=Gr.uniq h h' i (by lia) (by lia)
  have e:=AQ (show i<G.length by lia)
  have e':=AQ (show i<G'.length by lia)
  obtain ⟨n,le⟩:=h.2 i _ e
  obtain ⟨n',le'⟩:=h'.2 i _ e'
  rw[ih] at n le
  have:G[i]=G'[i]:=GU (le _ n') (le' _ n)
  rw[BG,BG,ih,e,e',this]
theorem Gr.is {G':List Int}(h:Gr m E G)(h':Gr m E G')(l:G.length<=G'.length):G=G'.take G.length:=by
 have:=h.uniq h' G.length (AY _) l
 rwa [Bb (AY _)] at this
theorem Gr.full (h:Gr m E G)(l:G.length=m){v:Int}(v0:0<=v)(v1:v<m):v∈G:=BA λn=>by
 have:=bA (m:=m) (R:=v :: G) (Cq.mpr ⟨n,h.1⟩) λx hx=>by
  rcases Bs.mp hx with z | z
  ·subst z;exact ⟨v0,v1⟩
  ·exact h.rng x z
 rw[BP] at this
 lia
theorem Gr.zT (h:Gr m E G)(l:G.length≠m):∃v:Int,0<=v/\v<m/\v∉G:=BA λn=>by
 have:=Dq (uP m) (l₂:=G) λv hv=>BA λz=>n ⟨v,(bG.mp hv).1,(bG.mp hv).2,z⟩
 rw[dE] at this
 have:=h.len
 lia
theorem Gr.turn (h:Gr m E G){i:Nat}{L L':List Int}(hL:∀v∈L',v∈L/\∃a∈L,[a,v]∈E)(hi:∀v∈L,v∈G.drop i):∀v∈L',v∈G.drop (i+1):=λv hv=>by
 obtain ⟨h1,a,ha,ea⟩:=hL v hv
 obtain ⟨j,ej⟩:=Bj.mp (hi v h1)
 obtain ⟨k,ek⟩:=Bj.mp (hi a ha)
 rw[Dc] at ej ek
 cases j with
 | succ j=>exact Bj.mpr ⟨j,by rw[Dc];rw[<- ej];congr 1;lia⟩
 | zero =>
  exfalso
  have:=(h.2 _ v ej).1.fr a ea
  obtain ⟨q,eq⟩:=Bj.mp this
  have lq:=(AW.mp eq).1
  rw[B4] at lq
  rw[Ds (by lia)] at eq
  have lk:=(AW.mp ek).1
  have:=(Gb (by lia) h.1).mp (eq.trans ek.symm)
  lia
theorem Stk.turn (h:Stk m E G){L L':List Int}(rE:∀a b,[a,b]∈E->0<=a/\a<m)(hL:∀v,v∈L->(∃a∈L,[a,v]∈E)->v∈L')(hi:∀v:Int,0<=v->v<m->v∉G->v∈L):∀v:Int,0<=v->v<m->v∉G->v∈L':=λv v0 v1 nv=>by
 refine hL v (hi v v0 v1 nv) (BA λno=>h v ⟨v0,v1,nv,λa ea=>BA λna=>no ⟨a,hi a (rE a v ea).1 (rE a v ea).2 na,ea⟩⟩)
end
def cn (E:List (List Int))(rk:List Int)(p:Int):Nat:=E.countP λt=>decide (t.getD 1 0=p/\t.getD 0 0∉rk)
def outs (E:List (List Int))(a:Int):List Int:=(E.filter λt=>decide (t.getD 0 0=a)).map (·.getD 1 0)
theorem sP {rk:List Int}{a p:Int}(na:a∉rk):∀E:List (List Int),cn E rk p=cn E (rk++[a]) p+(outs E a).count p
 | []=>rfl
 | t :: E=>by
  have ih:=sP na (p:=p) E
  unfold cn outs at ih ⊢
  rw[Gq,Gq]
  by_cases c:t.getD 0 0=a
  ·rw[Df (p:=λt:List Int=>decide (t.getD 0 0=a)) (decide_eq_true c),BF,IE]
   by_cases d:t.getD 1 0=p
   ·rw[if_pos (decide_eq_true ⟨d,by rw[c];exact na⟩),if_neg (λz=>(of_decide_eq_true z).2 (Bn _ (by rw[c];exact AZ.mpr rfl))),if_pos (beq_iff_eq.mpr d)]
    lia
   ·rw[if_neg (λz=>d (of_decide_eq_true z).1),if_neg (λz=>d (of_decide_eq_true z).1),if_neg (λz=>d (beq_iff_eq.mp z))]
    lia
  ·rw[Dg (p:=λt:List Int=>decide (t.getD 0 0=a)) (λz=>c (of_decide_eq_true z))]
   have:decide (t.getD 1 0=p/\t.getD 0 0∉rk)=decide (t.getD 1 0=p/\t.getD 0 0∉rk++[a]):=decide_eq_decide.mpr ⟨λz=>⟨z.1,λy=>by rcases A7.mp y with y | y;exact z.2 y;exact c (AZ.mp y)⟩,λz=>⟨z.1,λy=>z.2 (BD _ y)⟩⟩
   rw[this]
   lia
theorem gL {E:List (List Int)}(pr:∀t∈E,∃x y:Int,t=[x,y]){rk:List Int}{p:Int}:cn E rk p=0↔Fr E rk p:=by
 unfold cn
 rw[List.countP_eq_zero]
 constructor
 ·intro h a ha
  have:=h _ ha
  apply BA
  intro z
  exact this (decide_eq_true ⟨rfl,z⟩)
 ·intro h t ht z
  obtain ⟨x,y,rfl⟩:=pr t ht
  obtain ⟨z1,z2⟩:=of_decide_eq_true z
  have z1:y=p:=z1
  subst z1
  exact z2 (h x ht)
theorem gh {E:List (List Int)}(pr:∀t∈E,∃x y:Int,t=[x,y]){a v:Int}:v∈outs E a↔[a,v]∈E:=by
 unfold outs
 rw[Bh]
 constructor
 ·rintro ⟨t,ht,rfl⟩
  obtain ⟨h1,h2⟩:=Ce.mp ht
  obtain ⟨x,y,rfl⟩:=pr t h1
  have:x=a:=of_decide_eq_true h2
  subst this
  exact h1
 ·intro h
  exact ⟨[a,v],Ce.mpr ⟨h,decide_eq_true rfl⟩,rfl⟩
def swp (t:List Int):List Int:=[t.getD 1 0,t.getD 0 0]
theorem wu {E E':List (List Int)}(pm:E'.Perm (E.map swp))(p:Int):(outs E' p).length=cn E [] p:=by
 unfold outs cn
 rw[AN, <- List.countP_eq_length_filter,pm.countP_eq,List.countP_map]
 apply List.countP_congr
 intro t _
 show decide (t.getD 1 0=p)=true↔_
 simp
theorem uQ (E:List (List Int))(x y a:Int):outs (E++[[x,y]]) a=outs E a++if x=a then [y] else []:=by
 unfold outs
 rw[Dt,A3]
 congr 1
 by_cases c:x=a
 ·rw[if_pos c,Df (by simpa using c)];rfl
 ·rw[if_neg c,Dg (by simpa using c)];rfl
theorem p9 (E:List (List Int))(a:Int):(outs E a).length<=E.length:=by unfold outs;rw[AN];exact DP _ _
open PySem L2
def Rg (m:Int)(us:List (Addr×List Int)):Prop:=∀u∈us,∃x y,u.2=[x,y]/\0<=x/\x<m/\0<=y/\y<m
theorem Rg.snoc {m:Int}{us:List (Addr×List Int)}(h:Rg m us){t:Addr}{x y:Int}(x0:0<=x)(x1:x<m)(y0:0<=y)(y1:y<m):Rg m (us++[(t,[x,y])]):=λu hu=>by
 rcases A7.mp hu with z | z
 ·exact h u z
 ·rw[AZ] at z;subst z;exact ⟨x,y,rfl,x0,x1,y0,y1⟩
structure Rows (H2 H':Hp)(as:List Addr)(vs:List (List Int)):Prop where
 len:vs.length=as.length
 row:∀(j:Nat) a v,as[j]? = some a->vs[j]? = some v->H' a=some (.lst (v.map V.int))
 stay:∀b u,b∉as->H2 b=some u->H' b=some u
theorem Rows.push {H2 H':Hp}{as:List Addr}{vs:List (List Int)}(R:Rows H2 H' as vs)(nd:as.Nodup){j:Nat}{a:Addr}{v:List Int}(ea:as[j]? = some a)(ev:vs[j]? = some v)(x:Int) :
  Rows H2 (upd H' a (.lst ((v.map V.int)++[V.int x]))) as (vs.set j (v++[x])):=by
 have hj:j<vs.length:=(AW.mp ev).1
 refine ⟨by rw[GI];exact R.len,λi b u eb eu =>?_,λb u hb e =>?_⟩
 ·by_cases h:i=j
  ·subst h
   rw[ea] at eb;cases eb
   rw[Dj hj] at eu;cases eu
   rw[ae,A3];rfl
  ·rw[DT (C7 h)] at eu
   have ne:b≠a:=λz=>by
    subst z
    have hi:i<as.length:=(AW.mp eb).1
    exact h ((Gb hi nd).mp (eb.trans ea.symm))
   rw[aj ne]
   exact R.row i b u eb eu
 ·have ne:b≠a:=λz=>hb (z ▸ A8 ea)
  rw[aj ne]
  exact R.stay b u hb e
abbrev wx:Sp:=λvs H Q _=>∃(r:Addr) (m:Nat) (ts:List (Addr×List Int)),vs=[.ref r]/\Ow H r (m:Int) ts/\m<=200/\ts.length<=300/\∀(l:Addr) (H':Hp) (as:List Addr),ay H H'->H' l=some (.lst (as.map V.ref))->as.length=m->(∀(j:Nat) a,as[j]? = some a->H' a=some (.lst ((outs (ts.map (·.2)) (j:Int)).map V.int)))->Q (.ref l) H'
@[irreducible] def nI:Sp:=wx
theorem eM {vs:List V}{H:Hp}{Q:VK}{E:XK}:nI vs H Q E↔wx vs H Q E:=by
 delta nI
 exact CW
section
variable  {P:Bi}{w:BQ}{K:A0}{mg:Str->Option AS}{base:Heap}{f T:Addr}{fd:Cd}
theorem ie:aH ["web", "lists", "arrow"] ["web"] (ak jA):=⟨rfl,rfl,rfl,by decide +kernel,rfl,by decide +kernel,by decide +kernel⟩
theorem jF:(["place"]:List Str).Nodup:=by decide +kernel
theorem rj (F:Fun K "out_lists" "out_lists" jA f fd)(B:Blt mg):bB P w K mg base CX0 1 f fd ["web"] nI:=by
 refine F.ok ie (λvs H Q E h =>?_) (λcdv A outer s H vs Q E hr h =>?_)
 ·obtain ⟨_,_,_,rfl,_⟩:=eM.mp h
  rfl
 obtain ⟨r,m,ts,rfl,W,m2,tl,q⟩:=eM.mp h
 refine ⟨_,(@af _ _ _ _ _ (eZ (i:=1) ["place"] [none] rfl ie.nd rfl rfl (aQ rfl B.b_range (@aa _ _ _ _ _ (@aA _ _ _ _ _ _ _ aB (pv 0) ah (λ_ _=>rfl)) ab rfl)) rfl (λ_ _ _ _ _=>(aJ (i:=0) jF rfl (Or.inl rfl))) (λ_ _ _ _ _=>fR) (λ_ _ _ _ _=>(@bO _ _ _ _ ab)))
  (@af _ _ _ _ _ (@bR _ _ _ _ _ _ _ _ BZ rfl (@cX _ _ _ _ (@aA _ _ _ _ _ _ _ aB (pv 0) ah (λ_ _=>rfl))) (aJ (i:=2) ie.nd rfl (Or.inl rfl))
   (@ai _ _ _ (bE (cz Bt BS BU a7 (@aA _ _ _ _ _ _ _ cv (pv 1) (@aA _ _ _ _ _ _ _ aB (pv 2) ah (λ_ _=>rfl)) (λ_ _=>rfl)) (@aa _ _ _ _ _ (@aA _ _ _ _ _ _ _ aB (pv 2) ah (λ_ _=>rfl)) ab rfl)))) (λ_=>rfl))
  (@ai _ _ _ (@aD _ _ _ _ (pv 1))))),?_⟩
 obtain ⟨t,e1,e2⟩:=W.at'
 let W0:Nat->List V->Hp->Prop:=λi ys H'=>ay H H'/\∃as:List Addr,ys=as.map V.ref/\as.length=i/\as.Nodup/\∀a∈as,H a=none/\H' a=some (.lst [])
 refine ⟨_,rfl,r,_,0,_,rfl,rfl,SqT.of e1,rfl,(m:Int),rfl,by lia,by lia,cp (lo:=0) (n:=m) W0 ⟨ay.refl _,[],rfl,rfl,CB,λa ha=>by cases ha⟩ (small (by lia)) ?_ ?_⟩
 ·rintro i ys H3 hi hy ⟨s3,as,rfl,la,nd,ha⟩ R1 R0 r1 r0
  refine cG ⟨(by show 0<=Ba;decide),λp hp=>r1 _ _ ⟨s3.trans (ag hp _),as++[p],by rw[A3];rfl,by rw[AR,la];rfl,?_,λa m' =>?_⟩⟩
  ·rw[DE]
   refine ⟨nd,Cq.mpr ⟨by simp,CB⟩,λx hx y hy e =>?_⟩
   rw[AZ] at hy
   subst hy;subst e
   rw[(ha x hx).2] at hp;cases hp
  ·rcases A7.mp m' with z | z
   ·exact ⟨(ha a z).1,(ag hp _) _ _ (ha a z).2⟩
   ·rw[AZ] at z
    subst z
    exact ⟨s3.free hp,ae⟩
 rintro ys H3 hy ⟨s3,as,rfl,la,nd,ha⟩ l hl
 have s1:=s3.trans (ag hl (.lst (as.map V.ref)))
 have nl:l∉as:=λz=>by rw[(ha l z).2] at hl;cases hl
 have ha1:∀a∈as,upd H3 l (.lst (as.map V.ref)) a=some (.lst []):=λa z=>(ag hl _) _ _ (ha a z).2
 have hl1:upd H3 l (.lst (as.map V.ref)) l=some (.lst (as.map V.ref)):=ae
 generalize upd H3 l (.lst (as.map V.ref))=H1 at s1 ha1 hl1
 have old:∀{b:Addr} {o:HO},H b=some o->b∉as:=λ{b o} e z=>by rw[(ha b z).1] at e;cases e
 let W1:Nat->St->Hp->Prop:=λi σ H'=>(∃c,σ=[some (.ref r),some (.ref l),c])/\∃vs,Rows H1 H' as vs/\∀(j:Nat) v,vs[j]? = some v->v=outs ((ts.map (·.2)).take i) (j:Int)
 refine ⟨_,rfl,r,_,1,_,rfl,rfl,SqT.of (s1 _ _ e1),rfl,t,rfl,⟨_,SqT.of (s1 _ _ e2)⟩,xf (xs:=ts.map λu =>.ref u.1) W1 ⟨⟨_,rfl⟩,IW m [],⟨by rw[GG,la],λj b v eb ev =>?_,λb u _ e=>e⟩,λj v ev =>?_⟩ (λi σ H' _ z =>?_) ?_ ?_⟩
 ·rw[EK] at ev
  split at ev
  ·cases ev
   exact ha1 b (A8 eb)
  ·cases ev
 ·rw[EK] at ev
  split at ev
  ·cases ev;rfl
  ·cases ev
 ·obtain ⟨_,vs,R,_⟩:=z
  exact SqT.of (R.stay t _ (old e2) (s1 _ _ e2))
 ·rintro i x σ H' hx ⟨⟨c,rfl⟩,vs,R,RO⟩
  obtain ⟨u,eu,rfl⟩:=pX hx
  have mu:=A8 eu
  obtain ⟨x,y,e3,x0,x1,y0,y1⟩:=W.rng u mu
  have hu0:=W.tup u mu
  have hu':=R.stay _ _ (old hu0) (s1 _ _ hu0)
  rw[e3] at hu'
  have tk:(ts.map (·.2)).take (i+1)=(ts.map (·.2)).take i++[[x,y]]:=by rw[BG,A4,eu, <- e3];rfl
  obtain ⟨xn,rfl⟩:∃n:Nat,x=n:=⟨x.toNat,by lia⟩
  have lv:=R.len
  have hlst:=R.stay l _ nl hl1
  have axn:as[xn]? = some as[xn]:=AQ (by lia)
  have vxn:vs[xn]? = some vs[xn]:=AQ (by lia)
  have at1:atI (as.map V.ref) (xn:Int)=some (.ref as[xn]):=bP (by rw[A4,axn];rfl)
  have ll:vs[xn].length<=300:=by
   rw[RO xn _ vxn]
   refine BL (p9 _ _) ?_
   rw[B4,AN]
   lia
  have rowx:=R.row xn _ _ axn vxn
  refine ⟨_,rfl,_,rfl,u.1,_,0,_,rfl,rfl,SqT.of hu',rfl,l,_,(xn:Int),_,rfl,rfl,SqL.of hlst,at1,.inl ⟨rfl,_,SqL.of rowx⟩,_,rfl,u.1,_,1,_,rfl,rfl,SqT.of hu',rfl,as[xn],_,_,rfl,rfl,rowx,(by rw[AN];exact aY (by lia)),?_⟩
  refine ⟨⟨_,rfl⟩,_,R.push nd axn vxn y,λj v ev =>?_⟩
  rw[tk,uQ]
  by_cases jx:xn=j
  ·subst jx
   rw[Dj (by lia)] at ev
   cases ev
   rw[if_pos rfl, <- RO xn _ vxn]
  ·rw[DT jx] at ev
   rw[if_neg (by lia),B7]
   exact RO j v ev
 ·rintro σ H' ⟨⟨c,rfl⟩,vs,R,RO⟩
  rw[AN,Bb (by rw[AN];exact AY _)] at RO
  refine ⟨_,rfl,q l H' as (λb o e=>R.stay b o (old e) (s1 _ _ e)) (R.stay l _ nl hl1) la λj a ea =>?_⟩
  have lv:=R.len
  have hj:=(AW.mp ea).1
  have ev:vs[j]? = some vs[j]:=AQ (by lia)
  rw[<- RO j _ ev]
  exact R.row j a _ ea ev
end
abbrev qa:Sp:=λvs H Q _=>∃(r:Addr) (m:Nat) (ts:List (Addr×List Int)),vs=[.ref r]/\Ow H r (m:Int) ts/\ts.length<=250/\∀(b:Addr) (us:List (Addr×List Int)) (H':Hp),ay H H'->Ow H' b (m:Int) us->(us.map (·.2)).Perm ((ts.map (·.2)).map swp)->us.Pairwise (λa b=>HT.lexLt b.2 a.2=false)->Q (.ref b) H'
@[irreducible] def kh:Sp:=qa
theorem gi {vs:List V}{H:Hp}{Q:VK}{E:XK}:kh vs H Q E↔qa vs H Q E:=by
 delta kh
 exact CW
section
variable  {P:Bi}{w:BQ}{K:A0}{mg:Str->Option AS}{base:Heap}{f T:Addr}{fd:Cd}
theorem lI:aH ["web"] ["web"] (ak dM):=⟨rfl,rfl,rfl,by decide +kernel,rfl,by decide +kernel,by decide +kernel⟩
theorem gj:(["arrow"]:List Str).Nodup:=by decide +kernel
theorem lJ (F:Fun K "turned_arrows" "turned_arrows" dM f fd)(B:Blt mg):bB P w K mg base CX0 1 f fd ["web"] kh:=by
 refine F.ok lI (λvs H Q E h =>?_) (λcdv A outer s H vs Q E hr h =>?_)
 ·obtain ⟨_,_,_,rfl,_⟩:=gi.mp h
  rfl
 obtain ⟨r,m,ts,rfl,W,tl,q⟩:=gi.mp h
 refine ⟨_,(@ai _ _ _ (@aD _ _ _ _ (@a9 _ _ _ _ _ (@aa _ _ _ _ _ (@aA _ _ _ _ _ _ _ aB (pv 0) ah (λ_ _=>rfl)) (@aa _ _ _ _ _ (aG aM rfl B.b_tuple aX (@aa _ _ _ _ _ (az fh rfl B.b_sorted cC (@aa _ _ _ _ _ (bF ["arrow"] [none] rfl (@cX _ _ _ _ (@aA _ _ _ _ _ _ _ aB (pv 0) ah (λ_ _=>rfl))) rfl (λ_ _ _ _ _=>(aJ (i:=0) gj rfl (Or.inl rfl))) (λ_ _ _ _ _=>fR) (λ_ _ _ _ _=>(@a9 _ _ _ _ _ (@aa _ _ _ _ _ (@aA _ _ _ _ _ _ _ (cQ (K:=K)) (pv 0) ah (λ_ _=>rfl)) (@aa _ _ _ _ _ (@aA _ _ _ _ _ _ _ (cQ (K:=K)) (pv 0) ah (λ_ _=>rfl)) ab rfl) rfl)))) ab rfl)) ab rfl)) ab rfl) rfl)))),?_⟩
 obtain ⟨t,e1,e2⟩:=W.at'
 let W2:Nat->List V->Hp->Prop:=λi ys H'=>ay H H'/\∃us:List (Addr×List Int),ys=us.map (λu =>.ref u.1)/\Tus H' us/\us.map (·.2)=((ts.map (·.2)).take i).map swp
 refine ⟨_,rfl,r,_,0,_,rfl,rfl,SqT.of e1,rfl,_,rfl,r,_,1,_,rfl,rfl,SqT.of e1,rfl,t,rfl,⟨_,SqT.of e2⟩,gC (xs:=ts.map λu =>.ref u.1) W2 ⟨ay.refl _,[],rfl,λu hu=>(by cases hu),rfl⟩ (by rw[AN];exact small (by lia)) (λi ys H' _ k=>SqT.of (k.1 _ _ e2)) ?_ ?_⟩
 ·rintro i x ys H1 hx hy ⟨s1,us,rfl,tu,eu⟩ R1 R0 r1 r0
  obtain ⟨u,hu,rfl⟩:=pX hx
  have mu:=A8 hu
  obtain ⟨x,y,e3,_⟩:=W.rng u mu
  have hu1:=s1 _ _ (W.tup u mu)
  rw[e3] at hu1
  refine cG ⟨_,rfl,u.1,_,1,_,rfl,rfl,SqT.of hu1,rfl,_,rfl,u.1,_,0,_,rfl,rfl,SqT.of hu1,rfl,(by show 2<=Ba;decide),λa ha=>r1 _ _ ⟨s1.trans (ag ha _),us++[(a,[y,x])],by rw[A3];rfl,Tus.snoc (tu.same (ag ha _)) (u:=(a,[y,x])) ae,?_⟩⟩
  rw[A3,eu,BG,A4,hu,A3]
  show _++[[y,x]]=_++[swp u.2]
  rw[e3];rfl
 ·rintro ys H1 hy ⟨s1,us,rfl,tu,eu⟩ l hl
  rw[AN,Bb (by rw[AN];exact AY _)] at eu
  have rg:Rg (m:Int) us:=λu hu=>by
   have:u.2∈us.map (·.2):=Bh.mpr ⟨u,hu,rfl⟩
   rw[eu] at this
   obtain ⟨v,hv,ev⟩:=Bh.mp this
   obtain ⟨w,hw,rfl⟩:=Bh.mp hv
   obtain ⟨x,y,e,x0,x1,y0,y1⟩:=W.rng w hw
   exact ⟨y,x,by rw[<- ev,e];rfl,y0,y1,x0,x1⟩
  have g5:=ag hl (.lst (us.map λu =>.ref u.1))
  have el:upd H1 l (.lst (us.map λu =>.ref u.1)) l=some (.lst (us.map λu =>.ref u.1)):=ae
  refine ⟨l,us,rfl,.inl (SqL.of el),λt ht=>⟨SqT.of ((tu.same g5) t ht),?_⟩,λl2 out hl2 pm so =>?_⟩
  ·obtain ⟨x,y,e,_⟩:=rg t ht
   rw[e]
   intro z
   cases z
  refine ⟨l2,_,rfl,.inl ⟨SqL.of ae,λl3 hl3=>⟨(by show 2<=Ba;decide),λb hb =>?_⟩⟩⟩
  have gA:=((g5.trans (ag hl2 (.lst (out.map λt =>.ref t.1)))).trans (ag hl3 (.tup (out.map λt =>.ref t.1)))).trans (ag hb (.tup [.int (m:Int),.ref l3]))
  refine q b out _ (s1.trans gA) ⟨⟨l3,ae,(ag hb _) _ _ ae⟩,λu hu=>gA _ _ (tu u (pm.mem_iff.mp hu)),λu hu=>rg u (pm.mem_iff.mp hu)⟩ (by rw[<- eu];exact pm.map _) so
end
abbrev yH:Sp:=λvs H Q _=>∃(r:Addr) (m:Nat) (ts:List (Addr×List Int)),vs=[.ref r]/\Ow H r (m:Int) ts/\m<=200/\ts.length<=250/\∀(l:Addr) (H':Hp) (as:List Addr) (vs:List (List Int)),ay H H'->H' l=some (.lst (as.map V.ref))->as.length=m->vs.length=m->(∀(j:Nat) a v,as[j]? = some a->vs[j]? = some v->H' a=some (.lst (v.map V.int)))->(∀(j:Nat) v,vs[j]? = some v->v.length=cn (ts.map (·.2)) [] (j:Int))->(∃S:List (List Int),S.Perm ((ts.map (·.2)).map swp)/\S.Pairwise px/\vs=(Bw m).map λj:Nat=>outs S (j:Int))->Q (.ref l) H'
@[irreducible] def uS:Sp:=yH
theorem gk {vs:List V}{H:Hp}{Q:VK}{E:XK}:uS vs H Q E↔yH vs H Q E:=by
 delta uS
 exact CW
section
variable  {P:Bi}{w:BQ}{K:A0}{mg:Str->Option AS}{base:Heap}{f T:Addr}{fd:Cd}
theorem uT:aH ["web"] ["web"] (ak lA):=⟨rfl,rfl,rfl,by decide +kernel,rfl,by decide +kernel,by decide +kernel⟩
theorem uU (F:Fun K "in_lists" "in_lists" lA f fd)(B:Blt mg)(cOutLists:Cal P w K mg base 1 "out_lists" ["web"] nI)(cTurnedArrows:Cal P w K mg base 1 "turned_arrows" ["web"] kh):bB P w K mg base CX0 2 f fd ["web"] uS:=by
 refine F.ok uT (λvs H Q E h =>?_) (λcdv A outer s H vs Q E hr h =>?_)
 ·obtain ⟨_,_,_,rfl,_⟩:=gk.mp h
  rfl
 obtain ⟨r,m,ts,rfl,W,m2,tl,q⟩:=gk.mp h
 refine ⟨_,(@ai _ _ _ (@aD _ _ _ _ (ax cOutLists hr (by decide) rfl (@aa _ _ _ _ _ (ax cTurnedArrows hr (by decide) rfl (@aa _ _ _ _ _ (pv 0) ab rfl)) ab rfl)))),?_⟩
 refine ⟨_,rfl,gi.mpr ⟨r,m,ts,rfl,W,tl,λb us H1 s1 W1 pm so =>?_⟩⟩
 have lu:us.length=ts.length:=by have:=pm.length_eq;simpa using this
 refine eM.mpr ⟨b,m,us,rfl,W1,m2,by lia,λl H2 as s2 el la hr =>?_⟩
 refine q l H2 as ((Bw m).map λj:Nat=>outs (us.map (·.2)) (j:Int)) (s1.trans s2) el la (by simp) (λj a v ea ev =>?_) (λj v ev =>?_) ⟨us.map (·.2),pm,by rw[BW];exact so,rfl⟩
 ·rw[A4] at ev
  have hj:j<m:=by have:=(AW.mp ea).1;lia
  rw[Ea hj] at ev
  cases ev
  exact hr j a ea
 ·rw[A4] at ev
  cases h:(Bw m)[j]? with
  | none=>rw[h] at ev;cases ev
  | some k =>
   have:k=j:=by have:=AW.mp h;obtain ⟨h1,h2⟩:=this;simpa using h2.symm
   subst this
   rw[h] at ev
   cases ev
   exact wu pm _
end
open PySem L2
theorem ay.bT {H H':Hp}{l:Addr}(s:ay H H')(hl:H l=none)(o:HO):ay H (upd H' l o):=λb u e=>by
 rw[aj (aq e hl)];exact s _ _ e
theorem iY {i:Nat}{v:V}{σ:St}{H:Hp}{Q:St->Hp->Prop}(h:Q (σ.set i (some v)) H):gY i v σ H Q:=h
theorem rn {a b:TS}{D:Ends}{σ:St}{H:Hp}(h:a { D with nx:=b D } σ H):y6 a b D σ H:=h
def zU (H:Hp)(l:Addr):Nat:=match H l with
 | some (.lst xs)=>xs.length
 | _=>0
theorem sQ {H:Hp}{l:Addr}{xs:List V}(e:H l=some (.lst xs)):zU H l=xs.length:=by unfold zU;rw[e]
abbrev yI:Sp:=λvs H Q _=>∃(r:Addr) (m:Nat) (ts:List (Addr×List Int)),vs=[.ref r]/\Ow H r (m:Int) ts/\m<=200/\ts.length<=250/\∀(l:Addr) (H':Hp) (G:List Int),ay H H'->H l=none->H' l=some (.lst (G.map V.int))->Gr m (ts.map (·.2)) G->Stk m (ts.map (·.2)) G->Q (.ref l) H'
@[irreducible] def wz:Sp:=yI
theorem iZ {vs:List V}{H:Hp}{Q:VK}{E:XK}:wz vs H Q E↔yI vs H Q E:=by
 delta wz
 exact CW
section
variable  {P:Bi}{w:BQ}{K:A0}{mg:Str->Option AS}{base:Heap}{f T:Addr}{fd:Cd}
theorem bJ:aH ["web", "behind", "counts", "ready", "ranks", "place", "other"] ["web"] (ak fZ):=⟨rfl,rfl,rfl,by decide +kernel,rfl,by decide +kernel,by decide +kernel⟩
theorem jG:(["row"]:List Str).Nodup:=by decide +kernel
theorem dz:(["place", "counts"]:List Str).Nodup:=by decide +kernel
theorem oz (F:Fun K "first_ranks" "first_ranks" fZ f fd)(B:Blt mg)(cOutLists:Cal P w K mg base 1 "out_lists" ["web"] nI)(cInLists:Cal P w K mg base 2 "in_lists" ["web"] uS):bB P w K mg base CX0 3 f fd ["web"] wz:=by
 refine F.ok bJ (λvs H Q E h =>?_) (λcdv A outer s H vs Q E hr h =>?_)
 ·obtain ⟨_,_,_,rfl,_⟩:=iZ.mp h
  rfl
 obtain ⟨r,m,ts,rfl,W,m2,tl,q⟩:=iZ.mp h
 refine ⟨_,(@af _ _ _ _ _ (@au _ _ 1 _ _ _ _ bJ.nd rfl (Or.inl rfl) (ax cOutLists hr (by decide) rfl (@aa _ _ _ _ _ (pv 0) ab rfl)) rfl (by first | exact .inl rfl | exact .inr rfl | assumption))
  (@af _ _ _ _ _ (@au _ _ 2 _ _ _ _ bJ.nd rfl (Or.inr rfl) (bF ["row"] [none] rfl (@dC _ _ _ _ (ax cInLists hr (by decide) rfl (@aa _ _ _ _ _ (pv 0) ab rfl))) rfl (λ_ _ _ _ _=>(aJ (i:=0) jG rfl (Or.inl rfl))) (λ_ _ _ _ _=>fR) (λ_ _ _ _ _=>(az (ug (K:=K)) rfl B.b_len cj (@aa _ _ _ _ _ (pv 0) ab rfl)))) rfl (by first | exact .inl rfl | exact .inr rfl | assumption))
  (@af _ _ _ _ _ (eZ (i:=3) ["place", "counts"] [none,some 2] rfl bJ.nd rfl rfl (aQ rfl B.b_range (@aa _ _ _ _ _ (@aA _ _ _ _ _ _ _ aB (pv 0) ah (λ_ _=>rfl)) ab rfl)) rfl (λ_ _ _ _ _=>(aJ (i:=0) dz rfl (Or.inl rfl))) (λ_ _ _ _ _=>(cN (av cy (@aA _ _ _ _ _ _ _ (iJ (K:=K)) (pv 1) (pv 0) (λ_ _=>rfl)) ah (aE _)))) (λ_ _ _ _ _=>(pv 0)))
  (@af _ _ _ _ _ (@au _ _ 4 _ _ _ _ bJ.nd rfl (Or.inl rfl) (@bO _ _ _ _ ab) rfl (by first | exact .inl rfl | exact .inr rfl | assumption))
  (@af _ _ _ _ _ (fO BZ (kG (pv 3) (λ_=>rfl))
   (@af _ _ _ _ _ (@au _ _ 5 _ _ _ _ bJ.nd rfl (Or.inl rfl) (az (uM rfl) rfl B.b_min oy (@aa _ _ _ _ _ (pv 3) ab rfl)) rfl (by first | exact .inl rfl | exact .inr rfl | assumption))
   (@af _ _ _ _ _ (bE (cz Bt EG PySem.F.type_list_remove qW (pv 3) (@aa _ _ _ _ _ (pv 5) ab rfl)))
   (@af _ _ _ _ _ (bE (cz Bt BS BU a7 (pv 4) (@aa _ _ _ _ _ (pv 5) ab rfl)))
   (@ai _ _ _ (@bR _ _ _ _ _ _ _ _ BZ rfl (@dC _ _ _ _ (@aA _ _ _ _ _ _ _ cv (pv 1) (pv 5) (λ_ _=>rfl))) (aJ (i:=6) bJ.nd rfl (Or.inl rfl))
    (@af _ _ _ _ _ (xc (pv 2) (pv 6) uL ah zf set_list)
    (@ai _ _ _ (@a6 _ _ _ _ _ _ _ _ (av cy (@aA _ _ _ _ _ _ _ cv (pv 2) (pv 6) (λ_ _=>rfl)) ah (aE _)) (@ai _ _ _ (bE (cz Bt BS BU a7 (pv 3) (@aa _ _ _ _ _ (pv 6) ab rfl)))) aK))) (λ_=>rfl)))))))
  (@ai _ _ _ (@aD _ _ _ _ (pv 4)))))))),?_⟩
 have O:=W.rng
 have pr:∀t∈ts.map (·.2),∃x y:Int,t=[x,y]:=λt ht=>by
  obtain ⟨u,hu,rfl⟩:=Bh.mp ht
  obtain ⟨x,y,e,_⟩:=O u hu
  exact ⟨x,y,e⟩
 have rE:∀a b:Int,[a,b]∈ts.map (·.2)->(0<=a/\a<m)/\0<=b/\b<m:=λa b h=>by
  obtain ⟨u,hu,e'⟩:=Bh.mp h
  obtain ⟨x,y,e,x0,x1,y0,y1⟩:=O u hu
  rw[e] at e'
  cases e'
  exact ⟨⟨x0,x1⟩,y0,y1⟩
 refine ⟨_,rfl,eM.mpr ⟨r,m,ts,rfl,W,m2,by lia,λbl H1 as s1 eb la hb =>?_⟩⟩
 refine ⟨_,rfl,gk.mpr ⟨r,m,ts,rfl,W.same s1,m2,tl,λil H2 as2 vs s2 ei la2 lv hv hc _ =>?_⟩⟩
 have s02:=s1.trans s2
 generalize hE:ts.map (·.2)=E at pr rE hb hc q
 refine ⟨il,rfl,⟨_,SqL.of ei⟩,fe (xs:=as2.map V.ref) (λi ys H'=>H'=H2/\ys=((vs.take i).map λv=>(v.length:Int)).map V.int) ⟨rfl,rfl⟩ (by rw[AN];exact small (by lia)) (λi ys H' _ k=>by rw[k.1];exact SqL.of ei) ?_ ?_⟩
 ·rintro i x ys H3 hx hy ⟨eH,rfl⟩ R1 R0 r1 r0
  rw[A4] at hx
  have hi:i<as2.length:=by
   rcases D6 i as2.length with c | c
   ·exact c
   ·rw[Cr c] at hx;cases hx
  have ea:=AQ hi
  have ev:vs[i]? = some vs[i]:=AQ (by lia)
  rw[ea] at hx
  cases hx
  have row:=hv i _ _ ea ev
  rw[<- eH] at row
  refine cG ⟨_,rfl,as2[i],_,rfl,.inl (SqL.of row),r1 _ _ ⟨eH,?_⟩⟩
  rw[BG,ev,A3,A3,AN];rfl
 rintro ys H3 hy ⟨eH,rfl⟩ lc hlc
 rw[eH] at hlc ⊢
 rw[AN,Bb (by lia)]
 have ccs:∀j:Nat,j<m->(vs.map λv=>(v.length:Int))[j]? = some (cn E [] (j:Int):Int):=λj hj=>by
  have ev:vs[j]? = some vs[j]:=AQ (by lia)
  rw[A4,ev, <- hc j _ ev];rfl
 have lcs:(vs.map λv=>(v.length:Int)).length=m:=by rw[AN,lv]
 generalize (vs.map λv=>(v.length:Int))=Cs at ccs lcs
 have g3:=ag hlc (.lst (Cs.map V.int))
 have elc:upd H2 lc (.lst (Cs.map V.int)) lc=some (.lst (Cs.map V.int)):=ae
 generalize upd H2 lc (.lst (Cs.map V.int))=H4 at g3 elc
 obtain ⟨t,e1,e2⟩:=(W.same (s02.trans g3)).at'
 let W0:Nat->List V->Hp->Prop:=λi ys H'=>H'=H4/\∃Rd:List Int,ys=Rd.map V.int/\Rd.Nodup/\∀p:Int,p∈Rd↔0<=p/\p<i/\cn E [] p=0
 refine ⟨_,rfl,r,_,0,_,rfl,rfl,SqT.of e1,rfl,(m:Int),rfl,by lia,by lia,cp (lo:=0) (n:=m) W0 ⟨rfl,[],rfl,CB,λp=>⟨λz=>(by cases z),λz=>(by lia)⟩⟩ (small (by lia)) ?_ ?_⟩
 ·rintro i ys H5 hi hy2 ⟨eH5,Rd,rfl,nd,hR⟩ R1 R0 r1 r0
  have e0:(0+(i:Int))=((i:Nat):Int):=by lia
  rw[eH5]
  refine ⟨_,rfl,_,rfl,lc,_,_,_,rfl,rfl,SqL.of elc,bP (v:=V.int (cn E [] (i:Int):Int)) (by rw[A4,DN,ccs i hi];rfl),rfl,_,rfl,?_⟩
  refine bV (λz =>?_) λz =>?_
  ·have z':cn E [] (i:Int)=0:=by have:=V.int.inj (of_decide_eq_true z);lia
   refine ⟨_,rfl,r1 _ _ ⟨rfl,Rd++[(0+(i:Int))],by rw[A3];rfl,?_,λp =>?_⟩⟩
   ·rw[DE]
    exact ⟨nd,Cq.mpr ⟨by simp,CB⟩,λa ha b hb e=>by rw[AZ] at hb;have:=(hR a).mp ha;lia⟩
   ·rw[A7,AZ,hR p,e0]
    constructor
    ·rintro (y | y)
     ·exact ⟨y.1,by lia,y.2.2⟩
     ·rw[y];exact ⟨by lia,by lia,z'⟩
    ·rintro ⟨y1,y2,y3⟩
     by_cases c:p=(i:Int)
     ·exact .inr c
     ·exact .inl ⟨y1,by lia,y3⟩
  ·refine r0 _ ⟨rfl,Rd,rfl,nd,λp =>?_⟩
   rw[hR p]
   constructor
   ·exact λy=>⟨y.1,by lia,y.2.2⟩
   ·rintro ⟨y1,y2,y3⟩
    refine ⟨y1,?_,y3⟩
    have:p≠(i:Int):=λc=>z (decide_eq_true (by rw[<- c,y3];rfl))
    lia
 rintro ys H5 hy2 ⟨eH5,Rd,rfl,nd,hR⟩ lr hlr
 rw[eH5] at hlr ⊢
 have g5:=ag hlr (.lst (Rd.map V.int))
 have elr:upd H4 lr (.lst (Rd.map V.int)) lr=some (.lst (Rd.map V.int)):=ae
 have n1:lc≠lr:=aq elc hlr
 have elc5:=g5 _ _ elc
 generalize upd H4 lr (.lst (Rd.map V.int))=H5' at g5 elr elc5
 refine ⟨(by show 0<=Ba;decide),λlk hlk =>?_⟩
 have g6:=ag hlk (.lst [])
 have elk:upd H5' lk (.lst []) lk=some (.lst (([]:List Int).map V.int)):=ae
 have n2:lc≠lk:=aq elc5 hlk
 have n3:lr≠lk:=aq elr hlk
 have elc6:=g6 _ _ elc5
 have elr6:=g6 _ _ elr
 have fc:H2 lc=none:=hlc
 have fr:H2 lr=none:=g3.free hlr
 have fk:H2 lk=none:=(g3.trans g5).free hlk
 have s26:=g3.trans (g5.trans g6)
 generalize upd H5' lk (.lst [])=H6 at g6 elk elc6 elr6 s26
 have eb2:=s2 _ _ eb
 refine iY ?_
 dsimp only
 refine rn ?_
 refine fP (λσ H'=>∃(c5 c6:Option V) (Cs Rd rk:List Int),σ=[some (.ref r),some (.ref bl),some (.ref lc),some (.ref lr),some (.ref lk),c5,c6]/\ay H2 H'/\H' lc=some (.lst (Cs.map V.int))/\H' lr=some (.lst (Rd.map V.int))/\H' lk=some (.lst (rk.map V.int))/\Gr m E rk/\Cs.length=m/\(∀j:Nat,j<m->Cs[j]? = some (cn E rk (j:Int):Int))/\Rd.Nodup/\∀p,p∈Rd↔Nx m E rk p)
  (λ_ H'=>m-zU H' lk) ⟨_,_,Cs,Rd,[],rfl,s26,elc6,elr6,elk,Gr.nil,lcs,ccs,nd,λp=>(hR p).trans ⟨λy=>⟨y.1,y.2.1,by simp,(gL pr).mp y.2.2⟩,λy=>⟨y.p0,y.pm,(gL pr).mpr y.fr⟩⟩⟩ ?_ ?_
 ·rintro σ H' ⟨c5,c6,Cs,Rd,rk,rfl,s',ec,er,ek,G,lC,hC,nR,hR⟩
  refine ⟨_,rfl, !(Rd.map V.int).isEmpty,.inl ⟨_,SqL.of er,rfl⟩,?_⟩
  by_cases hY:Rd=[]
  ·subst hY
   refine bH ⟨_,rfl,q lk H' rk (s02.trans s') (s02.free fk) ek G λp hp =>?_⟩
   have:=(hR p).mpr hp
   cases this
  rw[show (!(Rd.map V.int).isEmpty)=true by cases Rd with | nil=>exact absurd rfl hY | cons a t=>rfl]
  refine cG ⟨_,rfl,lr,Rd,rfl,SqL.of er,hY,λM hM le =>?_⟩
  have nx:=(hR M).mp hM
  have rk1:=G.len
  refine ⟨_,rfl,.inl ⟨rfl,_,SqL.of er⟩,_,rfl,lr,Rd,M,rfl,rfl,er,hM,?_⟩
  have s7:=ay.bT s' fr (.lst ((Rd.erase M).map V.int))
  have er7:upd H' lr (.lst ((Rd.erase M).map V.int)) lr=some (.lst ((Rd.erase M).map V.int)):=ae
  have ec7:upd H' lr (.lst ((Rd.erase M).map V.int)) lc=some (.lst (Cs.map V.int)):=by rw[aj n1];exact ec
  have ek7:upd H' lr (.lst ((Rd.erase M).map V.int)) lk=some (.lst (rk.map V.int)):=by rw[aj n3.symm];exact ek
  generalize upd H' lr (.lst ((Rd.erase M).map V.int))=H7 at s7 er7 ec7 ek7
  refine ⟨_,rfl,.inl ⟨rfl,_,SqL.of ek7⟩,_,rfl,lk,_,_,rfl,rfl,ek7,by rw[AN];exact aY (by lia),?_⟩
  rw[show rk.map V.int++[V.int M]=(rk++[M]).map V.int by rw[A3];rfl]
  have s8:=ay.bT s7 fk (.lst ((rk++[M]).map V.int))
  have ek8:upd H7 lk (.lst ((rk++[M]).map V.int)) lk=some (.lst ((rk++[M]).map V.int)):=ae
  have ec8:upd H7 lk (.lst ((rk++[M]).map V.int)) lc=some (.lst (Cs.map V.int)):=by rw[aj n2];exact ec7
  have er8:upd H7 lk (.lst ((rk++[M]).map V.int)) lr=some (.lst ((Rd.erase M).map V.int)):=by rw[aj n3];exact er7
  generalize upd H7 lk (.lst ((rk++[M]).map V.int))=H8 at s8 er8 ec8 ek8
  have M0:=nx.p0
  have M1:=nx.pm
  obtain ⟨k,rfl⟩:∃n:Nat,M=n:=⟨M.toNat,by lia⟩
  have hk:k<as.length:=by lia
  have eak:as[k]? = some as[k]:=AQ hk
  have row:=s2 _ _ (hb k _ eak)
  have row8:=s8 _ _ row
  have G':=G.snoc nx λq hq=>le q ((hR q).mpr hq)
  have lo:(outs E (k:Int)).length<=250:=BL (p9 _ _) (by rw[<- hE,AN];exact tl)
  have nrk:∀o∈outs E (k:Int),o∉rk++[(k:Int)]:=λo ho hm=>by
   have ho:=(gh pr).mp ho
   obtain ⟨j,ej⟩:=Bj.mp hm
   have:=(G'.2 j o ej).1.fr _ ho
   have lj:=(AW.mp ej).1
   rw[AR] at lj
   have lj:j<rk.length+1:=lj
   rw[CG (by lia)] at this
   exact nx.nm (Dz this)
  generalize ho:outs E (k:Int)=os at row8 lo nrk
  have cs:=λp=>sP (p:=p) nx.nm E
  rw[ho] at cs
  generalize hrk:rk++[(k:Int)]=rk' at ek8 G' nrk cs
  refine ⟨_,rfl,_,rfl,bl,_,_,_,rfl,rfl,SqL.of (s8 _ _ eb2),bP (v:=V.ref as[k]) (by rw[A4,eak];rfl),as[k],rfl,⟨_,SqL.of row8⟩,iC (xs:=os.map V.int) (λi σ H'=>∃(c6:Option V) (Cs Rd:List Int),σ=[some (.ref r),some (.ref bl),some (.ref lc),some (.ref lr),some (.ref lk),some (.int k),c6]/\ay H2 H'/\H' lc=some (.lst (Cs.map V.int))/\H' lr=some (.lst (Rd.map V.int))/\H' lk=some (.lst (rk'.map V.int))/\Cs.length=m/\(∀j:Nat,j<m->Cs[j]? = some ((cn E rk' (j:Int)+(os.drop i).count (j:Int):Nat):Int))/\Rd.Nodup/\∀p,p∈Rd↔0<=p/\p<m/\p∉rk'/\cn E rk' p+(os.drop i).count p=0) ⟨_,Cs,Rd.erase k,rfl,s8,ec8,er8,ek8,lC,λj hj =>?_,nR.erase _,λp =>?_⟩ (λi σ H' _ z =>?_) ?_ ?_⟩
  ·rw[hC j hj,Ep,cs]
  ·rw[nR.mem_erase_iff,hR p,Ep, <- cs, <- hrk,A7,AZ]
   constructor
   ·rintro ⟨y1,y2⟩
    exact ⟨y2.p0,y2.pm,λy=>y.elim y2.nm y1,(gL pr).mpr y2.fr⟩
   ·rintro ⟨y1,y2,y3,y4⟩
    exact ⟨λy=>y3 (.inr y),y1,y2,λy=>y3 (.inl y),(gL pr).mp y4⟩
  ·obtain ⟨_,_,_,_,s9,_⟩:=z
   have:=s9 _ _ row
   rw[ho] at this
   exact SqL.of this
  ·rintro i x σ Ha hx ⟨c6,Cs,Rd,rfl,sa,eca,era,eka,lCa,hCa,nRa,hRa⟩
   obtain ⟨o,eo,rfl⟩:=nE hx
   have mo:=A8 eo
   have oE:[(k:Int),o]∈E:=(gh pr).mp (by rw[ho];exact mo)
   obtain ⟨_,o0,o1⟩:=rE _ _ oE
   have no:=nrk o mo
   obtain ⟨on,rfl⟩:∃n:Nat,o=n:=⟨o.toNat,by lia⟩
   have on1:on<m:=by lia
   have hi:=(AW.mp eo).1
   have dr:os.drop i=(on:Int) :: os.drop (i+1):=by rw[FV hi,(AW.mp eo).2]
   have lRa:Rd.length<=200:=BL (bA nRa λv hv=>⟨((hRa v).mp hv).1,((hRa v).mp hv).2.1⟩) m2
   have nin:(on:Int)∉Rd:=λy=>by
    have:=((hRa _).mp y).2.2.2
    rw[dr,G8] at this
    lia
   have ix:ixN (Cs.map V.int).length (on:Int)=some on:=by rw[AN];unfold ixN;simp;lia
   have cne:∀p:Int,p≠on->(os.drop i).count p=(os.drop (i+1)).count p:=λp hp=>by rw[dr,List.count_cons_of_ne (C7 hp)]
   have hon:Cs[on]? = some (((cn E rk' (on:Int)+(os.drop (i+1)).count (on:Int):Nat):Int)+1):=by
    rw[hCa on on1,dr,G8];congr 1
   generalize hv:cn E rk' (on:Int)+(os.drop (i+1)).count (on:Int)=v at hon
   refine ⟨_,rfl,_,rfl,lc,_,on,_,rfl,rfl,SqL.of eca,(by rw[A4,hon];rfl),_,_,rfl,rfl,lc,_,_,on,rfl,rfl,eca,ix,?_⟩
   rw[show (Cs.map V.int).set on (V.int ((v:Int)+1-1))=(Cs.set on (v:Int)).map V.int by rw[List.map_set,show (v:Int)+1-1=v by lia]]
   have sb:=ay.bT sa fc (.lst ((Cs.set on (v:Int)).map V.int))
   have ecb:upd Ha lc (.lst ((Cs.set on (v:Int)).map V.int)) lc=some (.lst ((Cs.set on (v:Int)).map V.int)):=ae
   have erb:upd Ha lc (.lst ((Cs.set on (v:Int)).map V.int)) lr=some (.lst (Rd.map V.int)):=by rw[aj n1.symm];exact era
   have ekb:upd Ha lc (.lst ((Cs.set on (v:Int)).map V.int)) lk=some (.lst (rk'.map V.int)):=by rw[aj n2.symm];exact eka
   have lCb:(Cs.set on (v:Int)).length=m:=by rw[GI];exact lCa
   have hCb:∀j:Nat,j<m->(Cs.set on (v:Int))[j]? = some ((cn E rk' (j:Int)+(os.drop (i+1)).count (j:Int):Nat):Int):=λj hj=>by
    by_cases c:on=j
    ·subst c
     rw[Dj (by lia),hv]
    ·rw[DT c,hCa j hj,cne j (by lia)]
   generalize Cs.set on (v:Int)=Cb at sb ecb erb ekb lCb hCb
   generalize upd Ha lc (.lst (Cb.map V.int))=Hb at sb ecb erb ekb
   have hz:=hCb on on1
   rw[hv] at hz
   refine ⟨_,rfl,_,rfl,lc,_,_,_,rfl,rfl,SqL.of ecb,bP (v:=V.int (v:Int)) (by rw[A4,hz];rfl),rfl,_,rfl,bV (λz =>?_) λz =>?_⟩
   ·have z':v=0:=by have:=V.int.inj (of_decide_eq_true z);lia
    refine ⟨_,rfl,.inl ⟨rfl,_,SqL.of erb⟩,_,rfl,lr,_,_,rfl,rfl,erb,by rw[AN];exact aY (by lia),?_⟩
    rw[show Rd.map V.int++[V.int (on:Int)]=(Rd++[(on:Int)]).map V.int by rw[A3];rfl]
    refine ⟨_,Cb,Rd++[(on:Int)],rfl,ay.bT sb fr _,by rw[aj n1];exact ecb,ae,by rw[aj n3.symm];exact ekb,lCb,hCb,?_,λp =>?_⟩
    ·rw[DE]
     exact ⟨nRa,Cq.mpr ⟨by simp,CB⟩,λa ha b hb e=>by rw[AZ] at hb;subst hb;subst e;exact nin ha⟩
    ·rw[A7,AZ]
     by_cases c:p=(on:Int)
     ·rw[c]
      exact ⟨λ_=>⟨o0,o1,no,by rw[hv,z']⟩,λ_ =>.inr rfl⟩
     ·rw[hRa p,cne p c]
      exact ⟨λy=>y.elim id λy=>absurd y c,.inl⟩
   ·refine ⟨_,Cb,Rd,rfl,sb,ecb,erb,ekb,lCb,hCb,nRa,λp =>?_⟩
    by_cases c:p=(on:Int)
    ·rw[c]
     exact ⟨λy=>absurd y nin,λy=>absurd y.2.2.2 (by rw[hv];exact λe=>z (decide_eq_true (by rw[e];rfl)))⟩
    ·rw[hRa p,cne p c]
  ·rintro σ Ha ⟨c6,Cs,Rd,rfl,sa,eca,era,eka,lCa,hCa,nRa,hRa⟩
   rw[AN,List.drop_length] at hCa hRa
   refine ⟨⟨_,_,Cs,Rd,rk',rfl,sa,eca,era,eka,G',lCa,λj hj=>by rw[hCa j hj];rfl,nRa,λp=>(hRa p).trans ⟨λy=>⟨y.1,y.2.1,y.2.2.1,(gL pr).mp y.2.2.2⟩,λy=>⟨y.p0,y.pm,y.nm,(gL pr).mpr y.fr⟩⟩⟩,?_⟩
   rw[sQ eka,sQ ek,AN,AN, <- hrk,AR]
   have:=G'.len
   rw[<- hrk,AR] at this
   show m-(rk.length+1)<m-rk.length
   have:rk.length+1<=m:=this
   lia
 ·rintro σ H' Q1 Q2 im ⟨x,e,k,tk,q⟩
  exact ⟨x,e,k,tk,im _ _ q⟩
end
open PySem L2
abbrev yJ:Sp:=λvs H Q _=>∃(r:Addr) (m:Nat) (ts:List (Addr×List Int)),vs=[.ref r]/\Ow H r (m:Int) ts/\m<=200/\ts.length<=250/\∀(H':Hp) (G:List Int),ay H H'->Gr m (ts.map (·.2)) G->Stk m (ts.map (·.2)) G->Q (.bl (decide (G.length=m))) H'
@[irreducible] def yd:Sp:=yJ
theorem lK {vs:List V}{H:Hp}{Q:VK}{E:XK}:yd vs H Q E↔yJ vs H Q E:=by
 delta yd
 exact CW
section
variable  {P:Bi}{w:BQ}{K:A0}{mg:Str->Option AS}{base:Heap}{f T:Addr}{fd:Cd}
theorem rp:aH ["web"] ["web"] (ak jB):=⟨rfl,rfl,rfl,by decide +kernel,rfl,by decide +kernel,by decide +kernel⟩
theorem rq (F:Fun K "has_ranks" "has_ranks" jB f fd)(B:Blt mg)(cFirstRanks:Cal P w K mg base 3 "first_ranks" ["web"] wz):bB P w K mg base CX0 4 f fd ["web"] yd:=by
 refine F.ok rp (λvs H Q E h =>?_) (λcdv A outer s H vs Q E hr h =>?_)
 ·obtain ⟨_,_,_,rfl,_⟩:=lK.mp h
  rfl
 obtain ⟨r,m,ts,rfl,W,m2,tl,q⟩:=lK.mp h
 refine ⟨_,(@ai _ _ _ (@aD _ _ _ _ (cu cy (az aO rfl B.b_len cj (@aa _ _ _ _ _ (ax cFirstRanks hr (by decide) rfl (@aa _ _ _ _ _ (pv 0) ab rfl)) ab rfl)) (@aA _ _ _ _ _ _ _ aB (pv 0) ah (λ_ _=>rfl)) (aE _)))),?_⟩
 refine ⟨_,rfl,iZ.mpr ⟨r,m,ts,rfl,W,m2,tl,λl H1 G s1 hl el gr st =>?_⟩⟩
 obtain ⟨t,e1,e2⟩:=(W.same s1).at'
 refine ⟨l,_,rfl,.inl (SqL.of el),_,rfl,r,_,0,_,rfl,rfl,SqT.of e1,rfl,rfl,?_⟩
 have:=q H1 G s1 gr st
 rw[show decide (V.int ((G.map V.int).length:Int)=V.int (m:Int))=decide (G.length=m) from decide_eq_decide.mpr (by rw[AN];exact ⟨λh=>by have:=V.int.inj h;lia,λh=>by rw[h]⟩)]
 exact this
end
open PySem L2
@[irreducible] def oB (K:A0):Sp:=λvs H Q _=>∃(a:Addr) (ns:List Int) (k:Int),vs=[.ref a,.int k]/\SqL K H a (ns.map V.int)/\0<=k/\k<63/\∀(n:Int) (p:Addr),H p=none->Q (.ref p) (upd H p (.lst [.int n]))
theorem ig {K:A0}{vs:List V}{H:Hp}{Q:VK}{E:XK}:oB K vs H Q E↔∃(a:Addr) (ns:List Int) (k:Int),vs=[.ref a,.int k]/\SqL K H a (ns.map V.int)/\0<=k/\k<63/\∀(n:Int) (p:Addr),H p=none->Q (.ref p) (upd H p (.lst [.int n])):=by
 delta oB
 exact CW
abbrev sR:Sp:=λvs H Q _=>∃(p:Addr) (m:Int),vs=[.ref p,.int m]/\Pt 1 H p/\0<m/\m<1073741824/\∀(d:Int) (H':Hp),0<=d->d<m->Bu 1 p H H'->Q (.int d) H'
@[irreducible] def ij:Sp:=sR
theorem aN {vs:List V}{H:Hp}{Q:VK}{E:XK}:ij vs H Q E↔sR vs H Q E:=by
 delta ij
 exact CW
theorem w60:Wd ((10:Int) ^ (60:Int).toNat):=by unfold Wd;decide +kernel
theorem w120:Wd ((10:Int) ^ (60:Int).toNat*(10:Int) ^ (60:Int).toNat):=by unfold Wd;decide +kernel
theorem w180:Wd ((10:Int) ^ (60:Int).toNat*(10:Int) ^ (60:Int).toNat*(10:Int) ^ (60:Int).toNat):=by unfold Wd;decide +kernel
theorem p240:(0:Int)<(10:Int) ^ (60:Int).toNat*(10:Int) ^ (60:Int).toNat*(10:Int) ^ (60:Int).toNat*(10:Int) ^ (60:Int).toNat:=by decide +kernel
section
variable  {P:Bi}{w:BQ}{K:A0}{mg:Str->Option AS}{base:Heap}{f T:Addr}{fd:Cd}
theorem dF:aH ["script", "k", "cell", "seed", "found", "turn"] ["script", "k"] (ak lG):=⟨rfl,rfl,rfl,by decide +kernel,rfl,by decide +kernel,by decide +kernel⟩
theorem ye (F:Fun K "_law_deal" "_law_deal" lG f fd)(B:Blt mg):bB P w K mg base CX0 1 f fd ["script", "k"] (oB K):=by
 refine F.ok dF (λvs H Q E h =>?_) (λcdv A outer s H vs Q E hr h =>?_)
 ·obtain ⟨_,_,_,rfl,_⟩:=ig.mp h
  rfl
 obtain ⟨a,ns,k,rfl,hS,k0,k1,q⟩:=ig.mp h
 have TT:∃t,PSs (nV CX0 P w K mg base ["script", "k", "cell", "seed", "found", "turn"] "_law_deal" (ak lG) f cdv A outer s H E).nox ((cg lG).drop 2) t/\∀(D:Ends) (c:Int) (c3 c4 c5:Option V),D.rt=Q->t D [some (.ref a),some (.int k),some (.int c),c3,c4,c5] H:=by
  refine ⟨_,(@af _ _ _ _ _ (@a6 _ _ _ _ _ _ _ _ (av Ah (pv 2) (@aL _ _ _ _ _ _ _ _ jk ah ah) (aE _)) (@ai _ _ _ (@aD _ _ _ _ (@bO _ _ _ _ (@aa _ _ _ _ _ (@aL _ _ _ _ _ _ _ _ nQ (pv 2) (@aL _ _ _ _ _ _ _ _ jk ah ah)) ab rfl)))) aK)
  (@af _ _ _ _ _ (@au _ _ 3 _ _ _ _ dF.nd rfl (Or.inl rfl) (@aL _ _ _ _ _ _ _ _ bS (@aL _ _ _ _ _ _ _ _ bS (@aL _ _ _ _ _ _ _ _ hX (pv 2) ah) (@aL _ _ _ _ _ _ _ _ kD ah (pv 1))) ah) rfl (by first | exact .inl rfl | exact .inr rfl | assumption))
  (@af _ _ _ _ _ (@au _ _ 4 _ _ _ _ dF.nd rfl (Or.inl rfl) ah rfl (by first | exact .inl rfl | exact .inr rfl | assumption))
  (@af _ _ _ _ _ (@bR _ _ _ _ _ _ _ _ BZ rfl (aQ rfl B.b_range (@aa _ _ _ _ _ ah ab rfl)) (aJ (i:=5) dF.nd rfl (Or.inl rfl))
   (@af _ _ _ _ _ (@au _ _ 3 _ _ _ _ dF.nd rfl (Or.inl rfl) (@aL _ _ _ _ _ _ _ _ hX (@aL _ _ _ _ _ _ _ _ bS (@aL _ _ _ _ _ _ _ _ kD (pv 3) ah) ah) ah) rfl (by first | exact .inl rfl | exact .inr rfl | assumption))
   (@ai _ _ _ (@au _ _ 4 _ _ _ _ dF.nd rfl (Or.inl rfl) (@aL _ _ _ _ _ _ _ _ bS (@aL _ _ _ _ _ _ _ _ kD (pv 4) ah) (@aL _ _ _ _ _ _ _ _ hX (@aL _ _ _ _ _ _ _ _ rM (@aL _ _ _ _ _ _ _ _ hX (@aL _ _ _ _ _ _ _ _ kD (pv 3) (pv 3)) ah) ah) ah)) rfl (by first | exact .inl rfl | exact .inr rfl | assumption)))) (λ_=>rfl))
  (@ai _ _ _ (@aD _ _ _ _ (@bO _ _ _ _ (@aa _ _ _ _ _ (pv 4) ab rfl)))))))),?_⟩
  intro D c c3 c4 c5 eD
  subst eD
  refine ⟨_,rfl,_,_,rfl,rfl,⟨by decide,by decide,by decide⟩,_,_,rfl,rfl,_,rfl,bV (λz =>?_) (λz =>?_)⟩
  ·exact ⟨_,rfl,_,_,rfl,rfl,⟨by decide,by decide,by decide⟩,_,_,rfl,rfl,(by show 1<=Ba;decide),λp hp=>q _ p hp⟩
  refine ⟨_,rfl,_,_,rfl,rfl,(by show (0:Int)<_;decide),_,rfl,_,_,rfl,rfl,.inl ⟨by decide,by decide⟩,_,_,rfl,rfl,_,_,rfl,rfl,?_⟩
  let W0:Nat->St->Hp->Prop:=λi σ H'=>(∃(se fo:Int) (c5:Option V),σ=[some (.ref a),some (.int k),some (.int c),some (.int se),some (.int fo),c5])/\H'=H
  refine ⟨30,rfl,by decide,by decide,bh (n:=30) W0 ⟨⟨_,_,_,rfl⟩,rfl⟩ ?_ ?_⟩
  ·rintro i σ H' hi ⟨⟨se,fo,c5,rfl⟩,rfl⟩
   refine ⟨_,rfl,_,_,rfl,rfl,.inr ⟨by decide,by decide⟩,_,_,rfl,rfl,_,_,rfl,rfl,(by show (0:Int)<_;decide),?_⟩
   have d1:=FC (se*48271+12345) (b:=2147483647) (by decide)
   have d2:=EW (se*48271+12345) (b:=2147483647) (by decide)
   generalize (se*48271+12345)%2147483647=o2 at d1 d2 ⊢
   refine ⟨_,rfl,_,_,rfl,rfl,.inr ⟨by decide,by decide⟩,_,rfl,_,rfl,_,_,rfl,rfl,.inl ⟨by lia,by lia⟩,_,_,rfl,rfl,(by show (0:Int)<_;decide),_,_,rfl,rfl,⟨by decide,by decide⟩,_,_,rfl,rfl,(by show (0:Int)<_;decide),_,_,rfl,rfl,?_⟩
   exact ⟨⟨_,_,_,rfl⟩,rfl⟩
  ·rintro σ H' ⟨⟨se,fo,c5,rfl⟩,rfl⟩
   exact ⟨_,rfl,(by show 1<=Ba;decide),λp hp=>q _ p hp⟩
 obtain ⟨tT,pT,gT⟩:=TT
 refine ⟨_,(@af _ _ _ _ _ (@au _ _ 2 _ _ _ _ dF.nd rfl (Or.inl rfl) ah rfl (by first | exact .inl rfl | exact .inr rfl | assumption))
  (@af _ _ _ _ _ (@a6 _ _ _ _ _ _ _ _ (av kE (pv 1) (az aO rfl B.b_len cj (@aa _ _ _ _ _ (pv 0) ab rfl)) (aE _)) (@ai _ _ _ (@au _ _ 2 _ _ _ _ dF.nd rfl (Or.inl rfl) (@aL _ _ _ _ _ _ _ _ hX (@aA _ _ _ _ _ _ _ cv (pv 0) (pv 1) (λ_ _=>rfl)) (@aL _ _ _ _ _ _ _ _ oo (@aL _ _ _ _ _ _ _ _ oo (@aL _ _ _ _ _ _ _ _ oo (@aL _ _ _ _ _ _ _ _ jk ah ah) (@aL _ _ _ _ _ _ _ _ jk ah ah)) (@aL _ _ _ _ _ _ _ _ jk ah ah)) (@aL _ _ _ _ _ _ _ _ jk ah ah))) rfl (by first | exact .inl rfl | exact .inr rfl | assumption))) aK)
  pT)),?_⟩
 refine ⟨_,rfl,_,rfl,a,_,rfl,.inl hS,_,_,rfl,rfl,_,rfl,bV (λz =>?_) (λz =>?_)⟩
 ·have z:=of_decide_eq_true z
  rw[AN] at z
  obtain ⟨j,rfl⟩:∃j:Nat,k=j:=⟨k.toNat,by lia⟩
  have hj:j<ns.length:=by lia
  exact ⟨_,rfl,_,rfl,a,_,_,.int ns[j],rfl,rfl,hS,bP (by rw[A4,AQ hj];rfl),_,_,rfl,rfl,⟨by decide,by decide,by decide⟩,_,_,rfl,rfl,⟨by decide,by decide,by decide⟩,_,_,rfl,rfl,⟨w60,w60⟩,_,_,rfl,rfl,⟨by decide,by decide,by decide⟩,_,_,rfl,rfl,⟨w120,w60⟩,_,_,rfl,rfl,⟨by decide,by decide,by decide⟩,_,_,rfl,rfl,⟨w180,w60⟩,_,_,rfl,rfl,p240,gT _ _ _ _ _ rfl⟩
 ·exact gT _ _ _ _ _ rfl
end
section
variable  {P:Bi}{w:BQ}{K:A0}{mg:Str->Option AS}{base:Heap}{f T:Addr}{fd:Cd}
theorem sS:aH ["pot", "many", "digit"] ["pot", "many"] (ak q9):=⟨rfl,rfl,rfl,by decide +kernel,rfl,by decide +kernel,by decide +kernel⟩
theorem yf (F:Fun K "_law_take" "_law_take" q9 f fd)(B:Blt mg):bB P w K mg base CX0 1 f fd ["pot", "many"] ij:=by
 refine F.ok sS (λvs H Q E h =>?_) (λcdv A outer s H vs Q E hr h =>?_)
 ·obtain ⟨_,_,rfl,_⟩:=aN.mp h
  rfl
 obtain ⟨p,m,rfl,hp,h0,h1,q⟩:=aN.mp h
 refine ⟨_,(@af _ _ _ _ _ (@au _ _ 2 _ _ _ _ sS.nd rfl (Or.inl rfl) (@aL _ _ _ _ _ _ _ _ hX (@aA _ _ _ _ _ _ _ cv (pv 0) ah (λ_ _=>rfl)) (pv 1)) rfl (by first | exact .inl rfl | exact .inr rfl | assumption))
  (@af _ _ _ _ _ (@ze _ _ _ _ _ _ (@aL _ _ _ _ _ _ _ _ rM (@aA _ _ _ _ _ _ _ cv (pv 0) ah (λ_ _=>rfl)) (pv 1)) (zc (pv 0) ah set_list) rfl rfl rfl)
  (@ai _ _ _ (@aD _ _ _ _ (pv 2))))),?_⟩
 have bt:=Bu.refl hp
 obtain ⟨xs,lx,ep⟩:=hp
 match xs,lx with
 | [x],_ =>
  refine ⟨_,rfl,p,_,0,_,rfl,rfl,SqL.of ep,rfl,_,rfl,_,_,rfl,rfl,h0,?_⟩
  refine ⟨_,rfl,p,_,0,_,rfl,rfl,SqL.of ep,rfl,_,rfl,_,_,rfl,rfl,⟨h0,h1⟩,_,rfl,p,_,0,0,rfl,rfl,ep,rfl,?_⟩
  refine ⟨_,rfl,?_⟩
  exact q _ _ (FC _ (by lia)) (EW _ h0) (bt.put (ys:=[x/m]) rfl)
end
open PySem L2
def nbs (ns:List (List Int))(k:Int):List Int:=(ns.filter λt=>decide (t.getD 1 0=k)).map (·.getD 0 0)
def Adj (ns:List (List Int))(p o:Int):Prop:=o∈nbs ns p
def Ok (m:Nat)(ns:List (List Int)):Prop:=∀t∈ns,∃a b:Int,t=[a,b]/\0<=a/\a<m/\0<=b/\b<m
theorem cS {m:Nat}{ns:List (List Int)}(O:Ok m ns){p o:Int}:o∈nbs ns p↔[o,p]∈ns:=by
 unfold nbs
 rw[Bh]
 constructor
 ·rintro ⟨t,ht,rfl⟩
  obtain ⟨h1,h2⟩:=Ce.mp ht
  obtain ⟨x,y,rfl,_⟩:=O t h1
  have:y=p:=of_decide_eq_true h2
  subst this
  exact h1
 ·intro h
  exact ⟨[o,p],Ce.mpr ⟨h,decide_eq_true rfl⟩,rfl⟩
theorem sT {m:Nat}{ns:List (List Int)}(O:Ok m ns){u v:Int}(h:Adj ns u v):(0<=u/\u<m)/\0<=v/\v<m:=by
 obtain ⟨a,b,e,h1,h2,h3,h4⟩:=O _ ((cS O).mp h)
 cases e
 exact ⟨⟨h3,h4⟩,h1,h2⟩
theorem ik {R:List Int}{v:Int}(nd:R.Nodup)(h:v∉R):(R++[v]).Nodup:=by
 rw[DE]
 exact ⟨nd,Cq.mpr ⟨by simp,CB⟩,λx hx y hy e=>h (by rw[AZ] at hy;subst hy;subst e;exact hx)⟩
structure fB (H:Hp)(n:Addr)(m:Nat)(ns:List (List Int))(os:List (Addr×List Int)):Prop where
 at':H n=some (.lst (os.map λu =>.ref u.1))
 len:os.length=m
 row:∀u∈os,H u.1=some (.lst (u.2.map V.int))
 is:∀(j:Nat) u,os[j]? = some u->∀x,x∈u.2↔x∈nbs ns (j:Int)
theorem fB.same {H H':Hp}{n:Addr}{m:Nat}{ns:List (List Int)}{os:List (Addr×List Int)}(h:fB H n m ns os)(s:ay H H'):fB H' n m ns os:=⟨s _ _ h.at',h.len,λu hu=>s _ _ (h.row u hu),h.is⟩
def lM (H:Hp)(d:Addr):Nat:=match H d with | some (.dK kvs)=>kvs.length | _=>0
def mF (H:Hp)(y:Addr):Nat:=match H y with | some (.lst xs)=>xs.length | _=>0
inductive Wk (R:Int->Int->Prop)(s:Int):Nat->Int->Prop
 | z:Wk R s 0 s
 | st {n:Nat} {p o:Int}:Wk R s n p->R p o->Wk R s (n+1) o
def Dst (R:Int->Int->Prop)(s:Int)(n:Nat)(v:Int):Prop:=Wk R s n v/\∀k,k<n->¬ Wk R s k v
theorem Dst.uniq {R:Int->Int->Prop}{s:Int}{a b:Nat}{v:Int}(h1:Dst R s a v)(h2:Dst R s b v):a=b:=by
 rcases Gd a b with h | h | h
 ·exact absurd h1.1 (h2.2 a h)
 ·exact h
 ·exact absurd h2.1 (h1.2 b h)
theorem Wk.zero {R:Int->Int->Prop}{s v:Int}(h:Wk R s 0 v):v=s:=by cases h;rfl
def stp (ns:List (List Int))(s g p o:Int):Prop:=Adj ns p o/\(p≠s\/o≠g)
theorem Wk.rng {m:Nat}{ns:List (List Int)}(O:Ok m ns){s g:Int}(hs:0<=s/\s<m){n:Nat}{v:Int}(h:Wk (stp ns s g) s n v):0<=v/\v<m:=by
 cases h with
 | z=>exact hs
 | st _ r=>exact (sT O r.1).2
def mp (C:List (Int×V)):List (Key×V):=C.map λe=>(Sum.inl e.1,e.2)
theorem oD (v:Int):∀C:List (Int×V),(v∉C.map (·.1)/\cJ (mp C) (Sum.inl v)=none)\/∃x,(v,x)∈C/\cJ (mp C) (Sum.inl v)=some x
 | [] =>.inl ⟨by simp,rfl⟩
 | e :: C=>by
  by_cases h:e.1=v
  ·refine .inr ⟨e.2,by rw[<- h];exact Be,?_⟩
   show cJ ((Sum.inl e.1,e.2) :: mp C) (Sum.inl v)=some e.2
   rw[fV (by rw[h])]
  ·have en:cJ (mp (e :: C)) (Sum.inl v)=cJ (mp C) (Sum.inl v):=by
    show cJ ((Sum.inl e.1,e.2) :: mp C) (Sum.inl v)=_
    rw[fW (λz=>h (by injection z))]
   rw[en]
   rcases oD v C with ⟨h1,h2⟩ | ⟨x,h1,h2⟩
   ·exact .inl ⟨by rw[BF,Bs];exact λz=>z.elim (λy=>h y.symm) h1,h2⟩
   ·exact .inr ⟨x,Br _ h1,h2⟩
theorem wA (v:Int)(C:List (Int×V)):(cJ (mp C) (Sum.inl v)).isSome=decide (v∈C.map (·.1)):=by
 rcases oD v C with ⟨h1,h2⟩ | ⟨x,h1,h2⟩
 ·rw[h2,decide_eq_false h1];rfl
 ·rw[h2,decide_eq_true (FD (f:=(·.1)) h1)];rfl
theorem zV {v:Int}{C:List (Int×V)}(h:v∈C.map (·.1)):∃x,(v,x)∈C/\cJ (mp C) (Sum.inl v)=some x:=by
 rcases oD v C with ⟨h1,_⟩ | z
 ·exact absurd h h1
 ·exact z
theorem zW {v:Int}{C:List (Int×V)}(h:v∉C.map (·.1))(x:V):putK (mp C) (Sum.inl v) x=mp (C++[(v,x)]):=by
 rcases oD v C with ⟨_,h2⟩ | ⟨x,h1,_⟩
 ·rw[pO _ h2];unfold mp;rw[A3];rfl
 ·exact absurd (FD (f:=(·.1)) h1) h
theorem rz (C:List (Int×V)):(mp C).length=C.length:=AN _
structure Rnd (ns:List (List Int))(s g:Int)(d:Nat)(C:List (Int×V))(Y F:List Int):Prop where
 nd:(C.map (·.1)).Nodup
 ent:∀e∈C,(e.1=s/\e.2 = .non)\/∃(p:Int) (n:Nat),e.2 = .int p/\Dst (stp ns s g) s n p/\Dst (stp ns s g) s (n+1) e.1/\stp ns s g p e.1
 key:∀v,v∈C.map (·.1)↔(∃n,n<=d/\Wk (stp ns s g) s n v)\/v∈F
 rdy:∀v,v∈Y↔Dst (stp ns s g) s d v
 fur:∀v∈F,Dst (stp ns s g) s (d+1) v
theorem Rnd.start (ns:List (List Int))(s g:Int):Rnd ns s g 0 [(s,.non)] [s] []:=by
 refine ⟨Cq.mpr ⟨by simp,CB⟩,λe he =>?_,λv =>?_,λv =>?_,λv h=>by cases h⟩
 ·rw[AZ] at he;subst he;exact .inl ⟨rfl,rfl⟩
 ·show v∈[s]↔_
  rw[AZ]
  refine ⟨λh =>.inl ⟨0,AY _,h ▸ .z⟩,λh =>?_⟩
  rcases h with ⟨n,h1,h2⟩ | h
  ·cases II.mp h1;exact h2.zero
  ·cases h
 ·rw[AZ]
  exact ⟨λh=>⟨h ▸ .z,λk hk=>absurd hk (DZ _)⟩,λh=>h.1.zero⟩
theorem Rnd.add {ns:List (List Int)}{s g:Int}{d:Nat}{C:List (Int×V)}{Y F:List Int}(h:Rnd ns s g d C Y F){p o:Int}(hp:p∈Y)(ha:stp ns s g p o)(hn:o∉C.map (·.1)):Rnd ns s g d (C++[(o,.int p)]) Y (F++[o]):=by
 have dp:=(h.rdy p).mp hp
 have dw:Dst (stp ns s g) s (d+1) o:=⟨.st dp.1 ha,λk hk w=>hn ((h.key o).mpr (.inl ⟨k,DY hk,w⟩))⟩
 refine ⟨?_,λe he =>?_,λv =>?_,h.rdy,λv hv =>?_⟩
 ·rw[A3];exact ik h.nd hn
 ·rcases A7.mp he with z | z
  ·exact h.ent e z
  ·rw[AZ] at z;subst z
   exact .inr ⟨p,d,rfl,dp,dw,ha⟩
 ·rw[A3,A7,h.key,A7]
  exact or_assoc
 ·rcases A7.mp hv with z | z
  ·exact h.fur v z
  ·rw[AZ] at z;subst z;exact dw
theorem Rnd.next {ns:List (List Int)}{s g:Int}{d:Nat}{C:List (Int×V)}{Y F:List Int}(h:Rnd ns s g d C Y F)(cl:∀p∈Y,∀o,stp ns s g p o->o∈C.map (·.1)):Rnd ns s g (d+1) C F []:=by
 have lo:∀v,Wk (stp ns s g) s (d+1) v->v∈C.map (·.1):=λv w=>by
  cases w with
  | st w1 r =>
   rename_i p
   by_cases z:∃k,k<d/\Wk (stp ns s g) s k p
   ·obtain ⟨k,hk,wk⟩:=z
    exact (h.key v).mpr (.inl ⟨k+1,hk,.st wk r⟩)
   ·exact cl p ((h.rdy p).mpr ⟨w1,λk hk wk=>z ⟨k,hk,wk⟩⟩) v r
 refine ⟨h.nd,h.ent,λv=>⟨λhv =>?_,λhv =>?_⟩,λv=>⟨h.fur v,λdv =>?_⟩,λv hv=>by cases hv⟩
 ·rcases (h.key v).mp hv with ⟨n,hn,w⟩ | z
  ·exact .inl ⟨n,DW hn,w⟩
  ·exact .inl ⟨d+1,AY _,(h.fur v z).1⟩
 ·rcases hv with ⟨n,hn,w⟩ | z
  ·rcases D6 d n with c | c
   ·have:n=d+1:=by lia
    subst this;exact lo v w
   ·exact (h.key v).mpr (.inl ⟨n,c,w⟩)
  ·cases z
 ·rcases (h.key v).mp (lo v dv.1) with ⟨n,hn,w⟩ | z
  ·exact absurd w (dv.2 n (Nat.lt_succ_of_le hn))
  ·exact z
theorem Rnd.stop {ns:List (List Int)}{s g:Int}{d:Nat}{C:List (Int×V)}(h:Rnd ns s g d C [] []){k:Nat}{v:Int}(w:Wk (stp ns s g) s k v):v∈C.map (·.1):=by
 refine (h.key v).mpr (.inl ?_)
 induction w with
 | z=>exact ⟨0,BX _,.z⟩
 | st w1 r ih =>
  rename_i n p o
  obtain ⟨n,hn,wn⟩:=ih
  by_cases z:∃k,k<d/\Wk (stp ns s g) s k p
  ·obtain ⟨k,hk,wk⟩:=z
   exact ⟨k+1,hk,.st wk r⟩
  ·have:n=d:=by
    rcases D6 n d with c | c
    ·exact absurd ⟨n,c,wn⟩ z
    ·lia
   subst this
   have:=(h.rdy p).mpr ⟨wn,λk hk wk=>z ⟨k,hk,wk⟩⟩
   cases this
theorem Rnd.dst {ns:List (List Int)}{s g:Int}{d:Nat}{C:List (Int×V)}{Y:List Int}(h:Rnd ns s g d C Y []){v:Int}(hv:v∈C.map (·.1)):∃n,n<=d/\Dst (stp ns s g) s n v:=by
 obtain ⟨e,he,rfl⟩:=Bh.mp hv
 rcases h.ent e he with ⟨h1,_⟩ | ⟨p,n,_,_,h3,_⟩
 ·exact ⟨0,BX _,h1 ▸ .z,λk hk=>absurd hk (DZ _)⟩
 ·rcases (h.key e.1).mp hv with ⟨k,hk,w⟩ | z
  ·refine ⟨n+1,?_,h3⟩
   rcases D6 d (n+1) with c | c
   ·exact absurd w (h3.2 k (by lia))
   ·exact c
  ·cases z
structure Trl (ns:List (List Int))(s g:Int)(N:Nat)(Z:List Int):Prop where
 hd:Z[0]? = some g
 dst:∀i x,Z[i]? = some x->i<=N/\Dst (stp ns s g) s (N-i) x
 ch:∀i x y,Z[i]? = some x->Z[i+1]? = some y->stp ns s g y x
theorem Trl.start {ns:List (List Int)}{s g:Int}{N:Nat}(h:Dst (stp ns s g) s N g):Trl ns s g N [g]:=by
 refine ⟨rfl,λi x e =>?_,λi x y _ e=>by simp at e⟩
 cases i with
 | zero=>cases e;exact ⟨BX _,h⟩
 | succ i=>simp at e
theorem Trl.add {ns:List (List Int)}{s g:Int}{N n:Nat}{W:List Int}{p q:Int}(h:Trl ns s g N (W++[p]))(hn:n+1+W.length=N)(dq:Dst (stp ns s g) s n q)(hs:stp ns s g q p):Trl ns s g N (W++[p]++[q]):=by
 have lz:(W++[p]).length=W.length+1:=by simp
 refine ⟨?_,λi x e =>?_,λi x y e1 e2 =>?_⟩
 ·rw[BK (by lia)];exact h.hd
 ·rcases D6 i (W.length+1) with c | c
  ·rw[BK (by lia)] at e;exact h.dst i x e
  ·rw[BN (by lia),lz] at e
   have:i-(W.length+1)=0:=by
    rcases EX (i-(W.length+1)) with z | z
    ·exact z
    ·rw[Cr (by simp;lia)] at e;cases e
   rw[this] at e;cases e
   refine ⟨by lia,?_⟩
   rw[show N-i=n by lia];exact dq
 ·rcases D6 (i+1) (W.length+1) with c | c
  ·rw[BK (by lia)] at e1 e2;exact h.ch i x y e1 e2
  ·rw[BN (by lia),lz] at e2
   have:i+1-(W.length+1)=0:=by
    rcases EX (i+1-(W.length+1)) with z | z
    ·exact z
    ·rw[Cr (by simp;lia)] at e2;cases e2
   rw[this] at e2;cases e2
   rw[BK (by lia),BN (by lia),show i-W.length=0 by lia] at e1
   cases e1;exact hs
def Way (ns:List (List Int))(s g:Int)(N:Nat)(Z:List Int):Prop:=Trl ns s g N Z/\Z.length=N+1
theorem Trl.inj {ns:List (List Int)}{s g:Int}{N:Nat}{Z:List Int}(h:Trl ns s g N Z):Z.Nodup:=by
 refine DQ.mpr λi j hi hj hij e =>?_
 have a:=h.dst i Z[i] (AQ hi)
 have b:=h.dst j Z[j] (AQ hj)
 rw[<- e] at b
 have:=a.2.uniq b.2
 omega
theorem Trl.rng {m:Nat}{ns:List (List Int)}(O:Ok m ns){s g:Int}(hs:0<=s/\s<m){N:Nat}{Z:List Int}(h:Trl ns s g N Z):∀v∈Z,0<=v/\v<m:=λv hv=>by
 obtain ⟨i,e⟩:=Bj.mp hv
 exact (h.dst i v e).2.1.rng O hs
theorem Way.last {ns:List (List Int)}{s g:Int}{N:Nat}{Z:List Int}(h:Way ns s g N Z):Z[N]? = some s:=by
 obtain ⟨x,ex⟩:∃x,Z[N]? = some x:=⟨_,AQ (by have:=h.2;lia)⟩
 have a:=(h.1.dst N x ex).2
 rw[GP] at a
 rw[ex,a.1.zero]
def inn (s g p:Int)(CF:List (Int×V)×List Int)(o:Int):List (Int×V)×List Int :=
 if o∈CF.1.map (·.1)\/¬ (p≠s\/o≠g) then CF else (CF.1++[(o,.int p)],CF.2++[o])
def zX (nb:Int->List Int)(s g:Int)(CF:List (Int×V)×List Int)(p:Int):List (Int×V)×List Int:=(nb p).foldl (inn s g p) CF
def itW (nb:Int->List Int)(s g:Int):Nat->List (Int×V)×List Int
 | 0=>([(s,.non)],[s])
 | k+1=>(itW nb s g k).2.foldl (zX nb s g) ((itW nb s g k).1,[])
def wB (g:Int)(CY:List (Int×V)×List Int):Prop:=CY.2=[]\/g∈CY.1.map (·.1)
def wC (nb:Int->List Int)(s g:Int)(C:List (Int×V)):Prop:=∃k,(itW nb s g k).1=C/\wB g (itW nb s g k)/\∀j,j<k->¬ wB g (itW nb s g j)
theorem wC.uniq {nb:Int->List Int}{s g:Int}{C C':List (Int×V)}(h:wC nb s g C)(h':wC nb s g C'):C=C':=by
 obtain ⟨k,e,st,no⟩:=h
 obtain ⟨k',e',st',no'⟩:=h'
 have:k=k':=by
  rcases Gd k k' with z | z | z
  ·exact absurd st (no' k z)
  ·exact z
  ·exact absurd st' (no k' z)
 rw[<- e, <- e',this]
def nxt:Option Int->V
 | some y =>.int y
 | none =>.non
theorem yg {a b:Option Int}(h:nxt a=nxt b):a=b:=by
 cases a <;> cases b <;> simp[nxt] at h ⊢
 exact h
def Tra (C:List (Int×V))(g:Int)(Z:List Int):Prop:=Z[0]? = some g/\∀(i:Nat) x,Z[i]? = some x->cJ (mp C) (Sum.inl x)=some (nxt Z[i+1]?)
theorem Tra.uniq {C:List (Int×V)}{g:Int}{Z Z':List Int}(h:Tra C g Z)(h':Tra C g Z'):Z=Z':=by
 apply E7
 intro i
 induction i with
 | zero=>rw[h.1,h'.1]
 | succ i ih =>
  cases e:Z[i]? with
  | none =>
   rw[e] at ih
   rw[Cr (by have:=DR.mp e;lia),Cr (by have:=DR.mp ih.symm;lia)]
  | some x =>
   have a:=h.2 i x e
   have b:=h'.2 i x (ih ▸ e)
   rw[a] at b
   exact yg (BC b)
def wD (nb:Int->List Int)(s g:Int)(Z:List Int):Prop:=∃C,wC nb s g C/\Tra C g Z
theorem wD.uniq {nb:Int->List Int}{s g:Int}{Z Z':List Int}(h:wD nb s g Z)(h':wD nb s g Z'):Z=Z':=by
 obtain ⟨C,f,t⟩:=h
 obtain ⟨C',f',t'⟩:=h'
 have:=f.uniq f'
 subst this
 exact t.uniq t'
def j6 (rows:List (List Int))(p:Int):List Int:=rows.getD p.toNat []
theorem dG {α β:Type}{f:β -> α -> β}{b:β}{l:List α}{i:Nat}{x:α}(e:l[i]? = some x):(l.take (i+1)).foldl f b=f ((l.take i).foldl f b) x:=by
 rw[BG,e,List.foldl_append];rfl
open PySem L2
theorem uV {X:Cx}{body:List Stmt}{D0:Ends}{σ0:St}{H0:Hp}(sts:List Stmt)(M:St->Hp->Prop)(h:∃t2,PSs X sts t2/\∀σ H,M σ H->t2 D0 σ H)
  (g:∀t2,PSs X sts t2->(∀σ H,M σ H->t2 D0 σ H)->∃t,PSs X body t/\t D0 σ0 H0):∃t,PSs X body t/\t D0 σ0 H0:=by
 obtain ⟨t2,p2,m2⟩:=h
 exact g t2 p2 m2
def yl (σ:St)(H:Hp):Nat:=match σ with
 | _ :: _ :: _ :: _ :: some (.ref y) :: _=>match H y with
  | some (.lst (_ :: _))=>1
  | _=>0
 | _=>0
theorem yK {c0 c1 c2 c3:Option V}{y:Addr}{r:St}{H:Hp}{xs:List V}(e:H y=some (.lst xs)):yl (c0 :: c1 :: c2 :: c3 :: some (.ref y) :: r) H=if xs=[] then 0 else 1:=by
 unfold yl
 dsimp only
 rw[e]
 cases xs with
 | nil=>rfl
 | cons a t=>rfl
theorem rA {n:Nat}(h:n<=5000):n<Ba:=EO h (by decide)
theorem nE {ms:List Int}{i:Nat}{x:V}(e:(ms.map V.int)[i]? = some x):∃n,ms[i]? = some n/\x = .int n:=by
 rw[A4] at e
 cases z:ms[i]? with
 | none=>rw[z] at e;cases e
 | some n=>rw[z] at e;exact ⟨n,rfl,(BC e).symm⟩
theorem sU {H:Hp}{d:Addr}{kvs:List (Key×V)}(e:H d=some (.dK kvs)):lM H d=kvs.length:=by unfold lM;rw[e]
theorem sV {H:Hp}{d:Addr}{xs:List V}(e:H d=some (.lst xs)):mF H d=xs.length:=by unfold mF;rw[e]
theorem gM {l:List Int}{i:Nat}{x v:Int}(e:l[i]? = some x)(h:v∈l.take (i+1)):v∈l.take i\/v=x:=by
 rw[BG,e] at h
 rcases A7.mp h with z | z
 ·exact .inl z
 ·exact .inr (by simpa using z)
abbrev wF:Sp:=λvs H Q _=>∃(n:Addr) (m:Nat) (ns:List (List Int)) (os:List (Addr×List Int)) (s g:Int),vs=[.ref n,.int s,.int g]/\fB H n m ns os/\Ok m ns/\m<=400/\(0<=s/\s<m)/\s≠g/\(∀H',ay H H'->(∀k,¬ Wk (stp ns s g) s k g)->Q .non H')/\∀(z:Addr) (H':Hp) (N:Nat) (Z:List Int),ay H H'->H' z=some (.tup (Z.map V.int))->Way ns s g N Z->wD (j6 (os.map (·.2))) s g Z->Q (.ref z) H'
@[irreducible] def sW:Sp:=wF
theorem jH {vs:List V}{H:Hp}{Q:VK}{E:XK}:sW vs H Q E↔wF vs H Q E:=by
 delta sW
 exact CW
def WM (H:Hp)(n:Addr)(sa gb:Int)(ns:List (List Int))(os:List (Addr×List Int))(σ:St)(H':Hp):Prop:=∃(c5 c6 c7:Option V) (dd y:Addr) (d:Nat) (C:List (Int×V)) (Y:List Int),σ=[some (.ref n),some (.int sa),some (.int gb),some (.ref dd),some (.ref y),c5,c6,c7,none]/\H dd=none/\ay H H'/\H' dd=some (.dK (mp C))/\H' y=some (.lst (Y.map V.int))/\Rnd ns sa gb d C Y []/\(Y=[]\/gb∈C.map (·.1))/\wC (j6 (os.map (·.2))) sa gb C
def WT (H:Hp)(n dd y wy:Addr)(sa gb:Int)(ns:List (List Int))(C:List (Int×V))(NN:Nat)(c5 c7:Option V)(σ:St)(H':Hp):Prop:=∃(x:V) (W Z:List Int),σ=[some (.ref n),some (.int sa),some (.int gb),some (.ref dd),some (.ref y),c5,some x,c7,some (.ref wy)]/\ay H H'/\H' dd=some (.dK (mp C))/\H' wy=some (.lst (W.map V.int))/\Trl ns sa gb NN Z/\(∀(i:Nat) u v,Z[i]? = some u->Z[i+1]? = some v->cJ (mp C) (Sum.inl u)=some (.int v))/\((∃(p:Int) (k:Nat),x = .int p/\Z=W++[p]/\Dst (stp ns sa gb) sa k p/\k+W.length=NN)\/(x = .non/\Z=W/\Z.length=NN+1/\∀u,Z[NN]? = some u->cJ (mp C) (Sum.inl u)=some .non))
def WA (H:Hp)(n dd:Addr)(sa gb:Int)(ns:List (List Int))(os:List (Addr×List Int))(σ:St)(H':Hp):Prop:=∃(c5 c6 c7:Option V) (y:Addr) (d:Nat) (C:List (Int×V)) (Y:List Int),σ=[some (.ref n),some (.int sa),some (.int gb),some (.ref dd),some (.ref y),c5,c6,c7,none]/\ay H H'/\H' dd=some (.dK (mp C))/\H' y=some (.lst (Y.map V.int))/\Rnd ns sa gb d C Y []/\∃k,itW (j6 (os.map (·.2))) sa gb k=(C,Y)/\∀j,j<k->¬ wB gb (itW (j6 (os.map (·.2))) sa gb j)
def WB (H:Hp)(n dd y fu:Addr)(sa gb:Int)(ns:List (List Int))(os:List (Addr×List Int))(d:Nat)(C:List (Int×V))(Y:List Int)(i:Nat)(σ:St)(H4:Hp):Prop:=∃(c6 c7:Option V) (C4:List (Int×V)) (F4:List Int),σ=[some (.ref n),some (.int sa),some (.int gb),some (.ref dd),some (.ref y),some (.ref fu),c6,c7,none]/\ay H H4/\H4 dd=some (.dK (mp C4))/\H4 y=some (.lst (Y.map V.int))/\H4 fu=some (.lst (F4.map V.int))/\Rnd ns sa gb d C4 Y F4/\C4.length=C.length+F4.length/\(∀p∈Y.take i,∀o,stp ns sa gb p o->o∈C4.map (·.1))/\(Y.take i).foldl (zX (j6 (os.map (·.2))) sa gb) (C,[])=(C4,F4)
def WC (H:Hp)(n dd y fu:Addr)(pn:Nat)(sa gb:Int)(ns:List (List Int))(uu:Addr×List Int)(d:Nat)(C C4:List (Int×V))(Y F4:List Int)(i:Nat)(j:Nat)(σ:St)(H5:Hp):Prop:=∃(c7:Option V) (C5:List (Int×V)) (F5:List Int),σ=[some (.ref n),some (.int sa),some (.int gb),some (.ref dd),some (.ref y),some (.ref fu),some (.int pn),c7,none]/\ay H H5/\H5 dd=some (.dK (mp C5))/\H5 y=some (.lst (Y.map V.int))/\H5 fu=some (.lst (F5.map V.int))/\Rnd ns sa gb d C5 Y F5/\C5.length=C.length+F5.length/\(∀p∈Y.take i,∀o,stp ns sa gb p o->o∈C5.map (·.1))/\(∀o∈uu.2.take j,stp ns sa gb pn o->o∈C5.map (·.1))/\(uu.2.take j).foldl (inn sa gb pn) (C4,F4)=(C5,F5)
section
variable  {P:Bi}{w:BQ}{K:A0}{mg:Str->Option AS}{base:Heap}{f T:Addr}{fd:Cd}
theorem bC:aH ["near", "start", "goal", "came", "ready", "further", "place", "other", "way"] ["near", "start", "goal"] (ak eJ):=⟨rfl,rfl,rfl,by decide +kernel,rfl,by decide +kernel,by decide +kernel⟩
theorem rB (F:Fun K "way_about" "way_about" eJ f fd)(B:Blt mg):bB P w K mg base CX0 1 f fd ["near", "start", "goal"] sW:=by
 refine F.ok bC (λvs H Q E h =>?_) (λcdv A outer s H vs Q E hr h =>?_)
 ·obtain ⟨_,_,_,_,_,_,rfl,_⟩:=jH.mp h
  rfl
 obtain ⟨n,m,ns,os,sa,gb,rfl,N,O,m4,hs,nsg,q0,q1⟩:=jH.mp h
 have hu:(nV CX0 P w K mg base ["near", "start", "goal", "came", "ready", "further", "place", "other", "way"] "way_about" (ak eJ) f cdv A outer s H E).nox.A.units+1<cLine:=yA hr
 have kl:∀{d:Nat} {C:List (Int×V)} {Y F:List Int},Rnd ns sa gb d C Y F->C.length<=m:=λ{d C Y F} I=>by
  have:=bA I.nd (m:=m) λv hv=>by
   rcases (I.key v).mp hv with ⟨k,_,wk⟩ | z
   ·exact wk.rng O hs
   ·exact (I.fur v z).1.rng O hs
  rwa [AN] at this
 refine uV ((cg eJ).drop 3) (WM H n sa gb ns os) ?hT λtT pT mT =>?gT
 case hT =>
  refine ⟨_,(@af _ _ _ _ _ (@a6 _ _ _ _ _ _ _ _ (nO (gJ hu (pv 2) (pv 3))) (@ai _ _ _ (@aD _ _ _ _ cW)) aK)
  (@af _ _ _ _ _ (@au _ _ 8 _ _ _ _ bC.nd rfl (Or.inl rfl) (@bO _ _ _ _ ab) rfl (by first | exact .inl rfl | exact .inr rfl | assumption))
  (@af _ _ _ _ _ (@au _ _ 6 _ _ _ _ bC.nd rfl (Or.inl rfl) (pv 2) rfl (by first | exact .inl rfl | exact .inr rfl | assumption))
  (@af _ _ _ _ _ (fO BZ (av nU (pv 6) cW (aE _))
   (@af _ _ _ _ _ (bE (cz Bt BS BU a7 (pv 8) (@aa _ _ _ _ _ (pv 6) ab rfl)))
   (@ai _ _ _ (@au _ _ 6 _ _ _ _ bC.nd rfl (Or.inl rfl) (xY hu (pv 3) (pv 6) (λ_ _=>rfl)) rfl (by first | exact .inl rfl | exact .inr rfl | assumption)))))
  (@ai _ _ _ (@aD _ _ _ _ (aG aM rfl B.b_tuple aX (@aa _ _ _ _ _ (pv 8) ab rfl)))))))),?_⟩
  rintro σ H' ⟨c5,c6,c7,dd,y,d,C,Y,rfl,hdd,s',ed,ey,I,h2,fw⟩
  refine ⟨_,rfl,_,rfl,dd,_,rfl,j5.k (k:=Sum.inl gb) ed,_,rfl,?_⟩
  rw[wA]
  by_cases hg:gb∈C.map (·.1)
  ·rw[decide_eq_true hg]
   refine bH ⟨(by show 0<=Ba;decide),λwy hwy =>?_⟩
   have g2:=ag hwy (.lst [])
   have ew:upd H' wy (.lst []) wy=some (.lst (([]:List Int).map V.int)):=ae
   have ed2:=g2 _ _ ed
   have hw0:=s'.free hwy
   have ndw:dd≠wy:=aq ed hwy
   have s2:=s'.trans g2
   generalize upd H' wy (.lst [])=H2 at g2 ew ed2 s2
   obtain ⟨NN,hN,dN⟩:=I.dst hg
   refine ⟨_,rfl,?_⟩
   refine fP (WT H n dd y wy sa gb ns C NN c5 c7)
    (λσ H'=>NN+1-mF H' wy) ⟨_,[],[gb],rfl,s2,ed2,ew,Trl.start dN,λi u v _ e=>by simp at e,.inl ⟨gb,NN,rfl,rfl,dN,rfl⟩⟩ ?_ ?_
   ·rintro σ H3 ⟨x,W,Z,rfl,s3,ed3,ew3,tr,vc,cs⟩
    have yw:=sV ew3
    rw[AN] at yw
    rcases cs with ⟨p,k,rfl,rfl,dp,kW⟩ | ⟨rfl,rfl,lZ,vl⟩
    ·refine ⟨_,rfl,rfl,_,rfl,cG ?_⟩
     refine ⟨_,rfl,.inl ⟨rfl,_,SqL.of ew3⟩,_,rfl,wy,_,_,rfl,rfl,ew3,by rw[AN];exact aY (by have:=bA tr.inj (tr.rng O hs);rw[AR] at this;lia),?_⟩
     have ew4:upd H3 wy (.lst (W.map V.int++[.int p])) wy=some (.lst ((W++[p]).map V.int)):=by rw[ae,A3];rfl
     have ed4:upd H3 wy (.lst (W.map V.int++[.int p])) dd=some (.dK (mp C)):=by rw[aj ndw];exact ed3
     have s4:=ay.bT s3 hw0 (.lst (W.map V.int++[.int p]))
     generalize upd H3 wy (.lst (W.map V.int++[.int p]))=H4 at ew4 ed4 s4
     have y4:=sV ew4
     rw[AN,AR] at y4
     have y4':mF H4 wy=W.length+1:=y4
     obtain ⟨x,hx,ex⟩:=zV ((I.key p).mpr (.inl ⟨k,by lia,dp.1⟩))
     refine ⟨_,rfl,_,rfl,dd,x,rfl,?_,⟨x,W++[p],?_⟩,by rw[yw,y4'];lia⟩
     ·have:=j5.k (k:=Sum.inl p) ed4
      rw[ex] at this
      exact this
     rcases I.ent _ hx with ⟨e1,e2⟩ | ⟨p',k',e2,d1,d2,st⟩
     ·have k0:k=0:=dp.uniq (b:=0) (by rw[show p=sa from e1];exact ⟨.z,λj hj=>absurd hj (DZ _)⟩)
      refine ⟨W++[p],rfl,s4,ed4,ew4,tr,vc,.inr ⟨e2,rfl,by rw[AR];show W.length+1=_;lia,λu eu =>?_⟩⟩
      rw[BN (by lia),show NN-W.length=0 by lia] at eu
      cases eu
      rw[ex,show x=V.non from e2]
     ·have kk:k=k'+1:=dp.uniq d2
      refine ⟨W++[p]++[p'],rfl,s4,ed4,ew4,tr.add (by lia) d1 st,λi u v e3 e4 =>?_,.inl ⟨p',k',e2,rfl,d1,by rw[AR];show k'+(W.length+1)=_;lia⟩⟩
      have lW:(W++[p]).length=W.length+1:=by simp
      rcases D6 (i+1) (W.length+1) with c | c
      ·rw[BK (by lia)] at e3 e4;exact vc i u v e3 e4
      ·rw[BN (by lia),lW] at e4
       have:i+1-(W.length+1)=0:=by
        rcases EX (i+1-(W.length+1)) with z | z
        ·exact z
        ·rw[Cr (by simp;lia)] at e4;cases e4
       rw[this] at e4;cases e4
       rw[BK (by lia),BN (by lia),show i-W.length=0 by lia] at e3
       cases e3
       rw[ex,show x=V.int p' from e2]
    ·refine ⟨_,rfl,rfl,_,rfl,bH ?_⟩
     refine ⟨_,rfl,wy,_,rfl,.inl ⟨SqL.of ew3,λz hz=>q1 z _ NN Z (s3.trans (ag hz _)) ae ⟨tr,lZ⟩ ⟨C,fw,tr.hd,λi u eu =>?_⟩⟩⟩
     cases ev:Z[i+1]? with
     | some v=>exact vc i u v eu ev
     | none =>
      have h1:=(AW.mp eu).1
      have h2:=DR.mp ev
      exact vl u (by rw[show NN=i by lia];exact eu)
   ·rintro σ H Q Q' h ⟨v,e,k,c,t,q⟩;exact ⟨v,e,k,c,t,h _ _ q⟩
  ·rw[decide_eq_false hg]
   have hY:Y=[]:=h2.resolve_right hg
   subst hY
   exact cG (q0 H' s' λk wk=>hg (I.stop wk))
 case gT =>
 refine ⟨_,(@af _ _ _ _ _ (@au _ _ 3 _ _ _ _ bC.nd rfl (Or.inl rfl) (sE (pU (pv 1) cW sD) rfl rfl (by simp) (by decide)) rfl (by first | exact .inl rfl | exact .inr rfl | assumption))
  (@af _ _ _ _ _ (@au _ _ 4 _ _ _ _ bC.nd rfl (Or.inl rfl) (@bO _ _ _ _ (@aa _ _ _ _ _ (pv 1) ab rfl)) rfl (by first | exact .inl rfl | exact .inr rfl | assumption))
  (@af _ _ _ _ _ (fO BZ (PW.pt (fK (kG (pv 4) (λ_=>rfl)) (dB (nO (gJ hu (pv 2) (pv 3))))))
   (@af _ _ _ _ _ (@au _ _ 5 _ _ _ _ bC.nd rfl (Or.inl rfl) (@bO _ _ _ _ ab) rfl (by first | exact .inl rfl | exact .inr rfl | assumption))
   (@af _ _ _ _ _ (@bR _ _ _ _ _ _ _ _ BZ rfl (@dC _ _ _ _ (pv 4)) (aJ (i:=6) bC.nd rfl (Or.inl rfl))
    (@ai _ _ _ (@bR _ _ _ _ _ _ _ _ BZ rfl (@dC _ _ _ _ (@aA _ _ _ _ _ _ _ cv (pv 0) (pv 6) (λ_ _=>rfl))) (aJ (i:=7) bC.nd rfl (Or.inl rfl))
     (@ai _ _ _ (@a6 _ _ _ _ _ _ _ _ (PW.pt (fK (nO (gJ hu (pv 7) (pv 3))) (dB (PW.pt (fL (av mK (pv 6) (pv 1) (aE _)) (fJ (av mK (pv 7) (pv 2) (aE _)))))))) (@af _ _ _ _ _ (sC hu (pv 3) (pv 7) (pv 6) rfl)
      (@ai _ _ _ (bE (cz Bt BS BU a7 (pv 5) (@aa _ _ _ _ _ (pv 7) ab rfl))))) aK)) (λ_=>rfl))) (λ_=>rfl))
   (@ai _ _ _ (@au _ _ 4 _ _ _ _ bC.nd rfl (Or.inl rfl) (pv 5) rfl (by first | exact .inl rfl | exact .inr rfl | assumption))))))
  pT))),?_⟩
 refine λdd hdd=>⟨_,rfl,ae,[(Sum.inl sa,.non)],rfl,(by show 1<=15;decide),?_⟩
 have e1d:upd (upd H dd (.dK [])) dd (.dK (cO [] [(Sum.inl sa,V.non)])) dd=some (.dK (mp [(sa,.non)])):=ae
 have s1:ay H (upd (upd H dd (.dK [])) dd (.dK (cO [] [(Sum.inl sa,V.non)]))):=λb o e=>by
  rw[aj (aq e hdd),aj (aq e hdd)];exact e
 generalize upd (upd H dd (.dK [])) dd (.dK (cO [] [(Sum.inl sa,V.non)]))=H1 at e1d s1
 refine ⟨_,rfl,(by show 1<=Ba;decide),λy hy =>?_⟩
 have g2:=ag hy (.lst [.int sa])
 have e2y:upd H1 y (.lst [.int sa]) y=some (.lst (([sa]:List Int).map V.int)):=ae
 have e2d:=g2 _ _ e1d
 have s2:=s1.trans g2
 generalize upd H1 y (.lst [.int sa])=H2 at g2 e2y e2d s2
 refine fP (WA H n dd sa gb ns os)
  (λσ H'=>2*(m-lM H' dd)+yl σ H') ⟨_,_,_,y,0,_,_,rfl,s2,e2d,e2y,Rnd.start ns sa gb,0,rfl,λj hj=>absurd hj (DZ _)⟩ ?_ ?_
 ·rintro σ H' ⟨c5,c6,c7,y,d,C,Y,rfl,s',ed,ey,I,kk,ekk,nst⟩
  refine ⟨_,rfl, !(Y.map V.int).isEmpty,.inl ⟨_,SqL.of ey,rfl⟩,?_⟩
  by_cases hY:Y=[]
  ·have fin:=mT _ _ ⟨c5,c6,c7,dd,y,d,C,Y,rfl,hdd,s',ed,ey,I,.inl hY,kk,by rw[ekk],by rw[ekk];exact .inl hY,nst⟩
   subst hY
   exact bH fin
  rw[show (!(Y.map V.int).isEmpty)=true by cases Y with | nil=>exact absurd rfl hY | cons a t=>rfl]
  refine cG ⟨_,rfl,_,rfl,dd,_,rfl,j5.k (k:=Sum.inl gb) ed,_,rfl,?_⟩
  rw[wA]
  by_cases hg:gb∈C.map (·.1)
  ·rw[decide_eq_true hg]
   exact bH (mT _ _ ⟨c5,c6,c7,dd,y,d,C,Y,rfl,hdd,s',ed,ey,I,.inr hg,kk,by rw[ekk],by rw[ekk];exact .inr hg,nst⟩)
  rw[decide_eq_false hg]
  refine cG ⟨(by show 0<=Ba;decide),λfu hfu =>?_⟩
  have hf0:=s'.free hfu
  have g3:=ag hfu (.lst [])
  have ef:upd H' fu (.lst []) fu=some (.lst (([]:List Int).map V.int)):=ae
  have ed3:=g3 _ _ ed
  have ey3:=g3 _ _ ey
  have ndf:dd≠fu:=aq ed hfu
  have nyf:y≠fu:=aq ey hfu
  have s3:=s'.trans g3
  have nyd:y≠dd:=iA ey ed (by intro z;cases z)
  have mu0:2*(m-lM H' dd)+yl [some (.ref n),some (.int sa),some (.int gb),some (.ref dd),some (.ref y),c5,c6,c7,none] H'=2*(m-C.length)+1:=by
   rw[sU ed,rz,yK ey,if_neg (by simpa using hY)]
  rw[mu0]
  generalize upd H' fu (.lst [])=H3 at g3 ef ed3 ey3 s3
  have kC:=kl I
  refine ⟨_,rfl,y,rfl,⟨_,SqL.of ey3⟩,iC (xs:=Y.map V.int) (WB H n dd y fu sa gb ns os d C Y)
   ⟨_,_,C,[],rfl,s3,ed3,ey3,ef,I,rfl,λp hp=>by simp at hp,rfl⟩ (λi σ H4 _ z =>?_) ?_ ?_⟩
  ·obtain ⟨_,_,_,_,_,_,_,e,_⟩:=z
   exact SqL.of e
  ·rintro i x σ H4 hx ⟨c6,c7,C4,F4,rfl,s4,ed4,ey4,ef4,I4,l4,cl4,fo4⟩
   obtain ⟨p,ep,rfl⟩:=nE hx
   have pY:=A8 ep
   have pr:=((I4.rdy p).mp pY).1.rng O hs
   obtain ⟨pn,rfl⟩:∃k:Nat,p=k:=⟨p.toNat,by lia⟩
   have N4:=N.same s4
   have pl:pn<os.length:=by rw[N.len];lia
   obtain ⟨uu,eu⟩:∃u,os[pn]? = some u:=⟨_,AQ pl⟩
   have rowu:=N4.row _ (A8 eu)
   have isu:=N.is pn _ eu
   have enb:j6 (os.map (·.2)) (pn:Int)=uu.2:=by unfold j6;rw[B2,A6,A4,eu];rfl
   refine ⟨_,rfl,_,rfl,n,_,(pn:Int),_,rfl,rfl,SqL.of N4.at',bP (by rw[A4,eu];rfl),uu.1,rfl,⟨_,SqL.of rowu⟩,iC (xs:=uu.2.map V.int)
    (WC H n dd y fu pn sa gb ns uu d C C4 Y F4 i)
    ⟨_,C4,F4,rfl,s4,ed4,ey4,ef4,I4,l4,cl4,λo ho=>by simp at ho,rfl⟩ (λj σ H5 _ z =>?_) ?_ ?_⟩
   ·obtain ⟨_,_,_,_,s5,_⟩:=z
    exact SqL.of ((N.same s5).row _ (A8 eu))
   ·rintro j x σ H5 hx ⟨c7,C5,F5,rfl,s5,ed5,ey5,ef5,I5,l5,cl5,tk5,fo5⟩
    obtain ⟨o,eo,rfl⟩:=nE hx
    have ao:Adj ns pn o:=(isu o).mp (A8 eo)
    refine ⟨_,rfl,_,rfl,dd,_,rfl,j5.k (k:=Sum.inl o) ed5,_,rfl,?_⟩
    rw[wA]
    by_cases ho:o∈C5.map (·.1)
    ·rw[decide_eq_true ho]
     refine bH (bH ⟨_,C5,F5,rfl,s5,ed5,ey5,ef5,I5,l5,cl5,λo' h' st =>?_,by rw[dG eo,fo5];unfold inn;rw[if_pos (.inl ho)]⟩)
     rcases gM eo h' with z | z
     ·exact tk5 o' z st
     ·rw[z];exact ho
    rw[decide_eq_false ho]
    have k5:=kl I5
    have hd:qS H5 dd (.int o) (.int pn) (upd H5 dd (.dK (putK (mp C5) (Sum.inl o) (.int pn)))):=qS.k (k:=Sum.inl o) ed5 (by rw[rz];exact rA (by lia))
    rw[zW ho] at hd
    have ed6:upd H5 dd (.dK (mp (C5++[(o,.int pn)]))) dd=some (.dK (mp (C5++[(o,.int pn)]))):=ae
    have ef6:upd H5 dd (.dK (mp (C5++[(o,.int pn)]))) fu=some (.lst (F5.map V.int)):=by rw[aj (C7 ndf)];exact ef5
    have ey6:upd H5 dd (.dK (mp (C5++[(o,.int pn)]))) y=some (.lst (Y.map V.int)):=by rw[aj nyd];exact ey5
    have s6:=ay.bT s5 hdd (.dK (mp (C5++[(o,.int pn)])))
    generalize upd H5 dd (.dK (mp (C5++[(o,.int pn)])))=H6 at hd ed6 ef6 ey6 s6
    have fin:stp ns sa gb pn o->WC H n dd y fu pn sa gb ns uu d C C4 Y F4 i (j+1) [some (.ref n),some (.int sa),some (.int gb),some (.ref dd),some (.ref y),some (.ref fu),some (.int pn),some (.int o),none] (upd H6 fu (.lst (F5.map V.int++[.int o]))):=λst=>by
     refine ⟨_,C5++[(o,.int pn)],F5++[o],rfl,ay.bT s6 hf0 _,by rw[aj ndf];exact ed6,by rw[aj nyf];exact ey6,by rw[ae,A3];rfl,I5.add pY st ho,by rw[AR,AR,l5];rfl,λp' hp' o' st' =>?_,λo' h' st' =>?_,by rw[dG eo,fo5];unfold inn;rw[if_neg (λz=>z.elim ho λy=>y st.2)]⟩
     ·rw[A3];exact BD _ (cl5 p' hp' o' st')
     ·rw[A3]
      rcases gM eo h' with z | z
      ·exact BD _ (tk5 o' z st')
      ·rw[z];exact Bn _ (by simp)
    have lf:F5.length<=400:=by lia
    refine cG ⟨_,rfl,_,rfl,rfl,_,rfl,bV (λz =>?_) λz=>⟨_,rfl,_,rfl,rfl,_,rfl,bV (λz2 =>?_) λz2 =>?_⟩⟩
    ·have h1:(pn:Int)≠sa:=by simpa using z
     exact cG ⟨_,rfl,_,rfl,_,rfl,dd,_,rfl,hd,_,rfl,.inl ⟨rfl,_,SqL.of ef6⟩,_,rfl,fu,_,_,rfl,rfl,ef6,by rw[AN];exact rA (by lia),fin ⟨ao,.inl h1⟩⟩
    ·have h1:o≠gb:=by simpa using z2
     exact ⟨_,rfl,_,rfl,_,rfl,dd,_,rfl,hd,_,rfl,.inl ⟨rfl,_,SqL.of ef6⟩,_,rfl,fu,_,_,rfl,rfl,ef6,by rw[AN];exact rA (by lia),fin ⟨ao,.inr h1⟩⟩
    ·have h1:(pn:Int)=sa:=by simpa using z
     have h2:o=gb:=by simpa using z2
     refine ⟨_,C5,F5,rfl,s5,ed5,ey5,ef5,I5,l5,cl5,λo' h' st =>?_,by rw[dG eo,fo5];unfold inn;rw[if_pos (.inr (λz=>z.elim (λy=>y h1) λy=>y h2))]⟩
     rcases gM eo h' with y' | y'
     ·exact tk5 o' y' st
     ·subst y'
      exact absurd st.2 (by simp[h1,h2])
   ·rintro σ H5 ⟨c7,C5,F5,rfl,s5,ed5,ey5,ef5,I5,l5,cl5,tk5,fo5⟩
    rw[AN,Bb (AY _)] at tk5 fo5
    refine ⟨_,_,C5,F5,rfl,s5,ed5,ey5,ef5,I5,l5,λp' hp' o st =>?_,by rw[dG ep,fo4];unfold zX;rw[enb];exact fo5⟩
    rcases gM ep hp' with z | z
    ·exact cl5 p' z o st
    ·subst z
     exact tk5 o ((isu o).mpr st.1) st
  ·rintro σ H4 ⟨c6,c7,C4,F4,rfl,s4,ed4,ey4,ef4,I4,l4,cl4,fo4⟩
   rw[AN,Bb (AY _)] at cl4 fo4
   have I5:=I4.next cl4
   have k4:=kl I4
   refine ⟨_,rfl,⟨_,_,_,fu,d+1,C4,F4,rfl,s4,ed4,ef4,I5,kk+1,by show (itW _ sa gb kk).2.foldl _ ((itW _ sa gb kk).1,[])=_;rw[ekk];exact fo4,λj hj =>?_⟩,?_⟩
   ·rcases D6 j kk with c | c
    ·exact nst j c
    ·rw[show j=kk by lia,ekk]
     exact λz=>z.elim hY hg
   show 2*(m-lM H4 dd)+yl [some (.ref n),some (.int sa),some (.int gb),some (.ref dd),some (.ref fu),some (.ref fu),c6,c7,none] H4<_
   rw[sU ed4,rz,yK ef4]
   by_cases hF:F4=[]
   ·subst hF;rw[if_pos (show List.map V.int []=[] from rfl),l4];show 2*(m-(C.length+0))+0<_;lia
   ·rw[if_neg (by simpa using hF),l4]
    have:=EA.mpr hF
    lia
 ·rintro σ H Q Q' h ⟨v,e,k,t,q⟩
  refine ⟨v,e,k,t,?_⟩
  cases k with
  | false=>exact h _ _ q
  | true =>
   obtain ⟨v,e,v2,e2,a,o,e3,g,c,e4,q⟩:=q
   exact ⟨v,e,v2,e2,a,o,e3,g,c,e4,h _ _ q⟩
end
open PySem L2
theorem i3 {n:Nat}{p la:Addr}{H H1:Hp}(hb:Bu n p H H1)(h:H1 la=none):H la=none:=by
 cases e:H la with
 | none=>rfl
 | some o =>
  by_cases z:la=p
  ·subst z
   obtain ⟨xs,_,e2⟩:=hb.pot
   rw[h] at e2
   cases e2
  ·rw[hb.st la o z e] at h
   cases h
theorem i4 (k:Int):∀ps:List Int,inV (.int k) (ps.map V.int)=decide (k∈ps):=λps=>AE k ps
theorem bj (ps:List Int):(ps.map V.int).all iE=true:=by
 rw[CD]
 intro x hx
 obtain ⟨n,_,rfl⟩:=Bh.mp hx
 rfl
theorem uW (us:List (Addr×List Int)):(us.map λu=>(u.1,V.int (u.2.getD 0 0),V.int (u.2.getD 1 0))).map (λt=>V.ref t.1)=us.map λu=>V.ref u.1:=by rw[DD];rfl
theorem gN {us:List (Addr×List Int)}{i:Nat}{t:Addr×V×V}(h:(us.map λu=>(u.1,V.int (u.2.getD 0 0),V.int (u.2.getD 1 0)))[i]? = some t):∃u,us[i]? = some u/\t=(u.1,V.int (u.2.getD 0 0),V.int (u.2.getD 1 0)):=by
 rw[A4] at h
 cases e:us[i]? with
 | none=>rw[e] at h;cases h
 | some u=>rw[e] at h;exact ⟨u,rfl,(BC h).symm⟩
theorem gO {K:A0}{H:Hp}{b t:Addr}{m:Int}{ts:List (Addr×List Int)}(W:Ow H b m ts)(e:H t=some (.tup (ts.map λu =>.ref u.1))):SqT K H t ((ts.map λu=>(u.1,V.int (u.2.getD 0 0),V.int (u.2.getD 1 0))).map λt =>.ref t.1)/\∀t∈ts.map λu=>(u.1,V.int (u.2.getD 0 0),V.int (u.2.getD 1 0)),SqT K H t.1 [t.2.1,t.2.2]:=by
 rw[uW]
 refine ⟨SqT.of e,λt ht =>?_⟩
 obtain ⟨u,hu,rfl⟩:=Bh.mp ht
 obtain ⟨x,y,e,_⟩:=W.rng u hu
 have:=W.tup u hu
 rw[e] at this
 have e0:(u.1,V.int (u.2.getD 0 0),V.int (u.2.getD 1 0))=(u.1,V.int x,V.int y):=by rw[e];rfl
 rw[e0]
 exact SqT.of this
theorem zY {n:Nat}{p la t:Addr}{H H1:Hp}{us:List (Addr×List Int)}(m:Mkg n p la H H1 us)(hla:H la=none)(np:la≠p){x y:Int}(ht:H1 t=some (.tup ([x,y].map V.int))):Mkg n p la H (upd H1 la (.lst ((us.map λu=>V.ref u.1)++[.ref t]))) (us++[(t,[x,y])]):=by
 refine ⟨m.bu.bT hla np _,?_,?_,?_⟩
 ·rw[ae,A3];rfl
 ·refine Tus.snoc (λu hu =>?_) ?_
  ·rw[aj (iA (m.tu u hu) m.at' (by intro z;cases z))]
   exact m.tu u hu
  ·show upd H1 la _ t=_
   rw[aj (iA ht m.at' (by intro z;cases z))]
   exact ht
 ·intro u hu
  rcases A7.mp hu with z | z
  ·exact m.two u z
  ·rw[AZ] at z;subst z;exact ⟨x,y,rfl⟩
def gm (P:List Int)(t:List Int):Bool := !decide (t.getD 0 0∈P) && !decide (t.getD 1 0∈P)
abbrev wG:Sp:=λvs H Q _=>∃(p:Addr),vs=[.ref p,.int 7,.int 12]/\Pt 1 H p/\∀(b:Addr) (m:Nat) (ts:List (Addr×List Int)) (H':Hp),Bu 1 p H H'->Ow H' b (m:Int) ts->m<=7->ts.length<=12->(ts.map (·.2)).Nodup->Q (.ref b) H'
@[irreducible] def sZ:Sp:=wG
theorem jI {vs:List V}{H:Hp}{Q:VK}{E:XK}:sZ vs H Q E↔wG vs H Q E:=by
 delta sZ
 exact CW
section
variable  {P:Bi}{w:BQ}{K:A0}{mg:Str->Option AS}{base:Heap}{f T:Addr}{fd:Cd}
theorem eN:aH ["pot", "most", "arrows", "many", "found", "turn", "arrow"] ["pot", "most", "arrows"] (ak lH):=⟨rfl,rfl,rfl,by decide +kernel,rfl,by decide +kernel,by decide +kernel⟩
theorem uZ (F:Fun K "_law_one_way" "_law_one_way" lH f fd)(B:Blt mg)(cLTake:Cal P w K mg base 1 "_law_take" ["pot", "many"] ij):bB P w K mg base CX0 2 f fd ["pot", "most", "arrows"] sZ:=by
 refine F.ok eN (λvs H Q E h =>?_) (λcdv A outer s H vs Q E hr h =>?_)
 ·obtain ⟨_,rfl,_⟩:=jI.mp h
  rfl
 obtain ⟨p,rfl,hp,q⟩:=jI.mp h
 refine ⟨_,(@af _ _ _ _ _ (@au _ _ 3 _ _ _ _ eN.nd rfl (Or.inl rfl) (ax cLTake hr (by decide) rfl (@aa _ _ _ _ _ (pv 0) (@aa _ _ _ _ _ (@aL _ _ _ _ _ _ _ _ bS (pv 1) ah) ab rfl) rfl)) rfl (by first | exact .inl rfl | exact .inr rfl | assumption))
  (@af _ _ _ _ _ (@au _ _ 4 _ _ _ _ eN.nd rfl (Or.inl rfl) (@bO _ _ _ _ ab) rfl (by first | exact .inl rfl | exact .inr rfl | assumption))
  (@af _ _ _ _ _ (@bR _ _ _ _ _ _ _ _ BZ rfl (aQ rfl B.b_range (@aa _ _ _ _ _ (@aL _ _ _ _ _ _ _ _ kD (ax cLTake hr (by decide) rfl (@aa _ _ _ _ _ (pv 0) (@aa _ _ _ _ _ (@aL _ _ _ _ _ _ _ _ bS (pv 2) ah) ab rfl) rfl)) (aG t4 rfl B.b_int zR (@aa _ _ _ _ _ (cu Ag (pv 3) ah (aE _)) ab rfl))) ab rfl)) (aJ (i:=5) eN.nd rfl (Or.inl rfl))
   (@af _ _ _ _ _ (@au _ _ 6 _ _ _ _ eN.nd rfl (Or.inl rfl) (@a9 _ _ _ _ _ (@aa _ _ _ _ _ (ax cLTake hr (by decide) rfl (@aa _ _ _ _ _ (pv 0) (@aa _ _ _ _ _ (pv 3) ab rfl) rfl)) (@aa _ _ _ _ _ (ax cLTake hr (by decide) rfl (@aa _ _ _ _ _ (pv 0) (@aa _ _ _ _ _ (pv 3) ab rfl) rfl)) ab rfl) rfl)) rfl (by first | exact .inl rfl | exact .inr rfl | assumption))
   (@ai _ _ _ (@a6 _ _ _ _ _ _ _ _ (av (k8 (hu8 hr)) (pv 6) (pv 4) rfl) (@ai _ _ _ (bE (cz Bt BS BU a7 (pv 4) (@aa _ _ _ _ _ (pv 6) ab rfl)))) aK))) (λ_=>rfl))
  (@ai _ _ _ (@aD _ _ _ _ (@a9 _ _ _ _ _ (@aa _ _ _ _ _ (pv 3) (@aa _ _ _ _ _ (aG aM rfl B.b_tuple aX (@aa _ _ _ _ _ (az fh rfl B.b_sorted cC (@aa _ _ _ _ _ (pv 4) ab rfl)) ab rfl)) ab rfl) rfl))))))),?_⟩
 refine ⟨_,rfl,_,rfl,_,_,rfl,rfl,aN.mpr ⟨p,8,rfl,hp,by decide,by decide,λm' H1 m0 m1 u1 =>?_⟩⟩
 obtain ⟨m,rfl⟩:∃m:Nat,m'=m:=⟨m'.toNat,by lia⟩
 refine ⟨(by show 0<=Ba;decide),λla hla1 =>?_⟩
 have hla:=i3 u1 hla1
 have np:la≠p:=hp.ne hla
 have m6:Mkg 1 p la H (upd H1 la (.lst [])) []:=⟨u1.same (ag hla1 _),ae,(λu hu=>by cases hu),λu hu=>by cases hu⟩
 generalize upd H1 la (.lst [])=H6 at m6
 refine ⟨_,rfl,_,rfl,_,_,rfl,rfl,aN.mpr ⟨p,13,rfl,m6.bu.pot,by decide,by decide,λn H7 n0 n13 u7 =>?_⟩⟩
 have m7:=m6.bu' np u7
 refine ⟨_,rfl,_,_,rfl,rfl,.inr ⟨_,rfl,_,_,rfl,rfl,.inl ⟨by lia,by lia⟩,?_⟩⟩
 obtain ⟨N,hN,N0,N1,N2⟩:∃N:Int,n*(if decide ((m:Int)>0)=true then 1 else 0)=N/\0<=N/\N<=12/\(0<N->0<m):=by
  refine ⟨_,rfl,?_⟩
  by_cases c:(m:Int)>0
  ·rw[decide_eq_true c,if_pos rfl];lia
  ·rw[decide_eq_false c,if_neg Bf];lia
 refine ⟨N,congrArg (λx=>[V.int x]) hN,by lia,by lia,bh (λk σ H'=>(∃c5 c6,σ=[some (.ref p),some (.int 7),some (.int 12),some (.int (m:Int)),some (.ref la),c5,c6])/\∃us,Mkg 1 p la H H' us/\Rg m us/\us.length<=k/\(us.map (·.2)).Nodup) ⟨⟨_,_,rfl⟩,[],m7,λu hu=>(by cases hu),BX _,CB⟩ ?_ ?_⟩
 ·rintro k σ H8 hk ⟨⟨c5,c6,rfl⟩,us,m8,rg,lu,ndu⟩
  have hm:0<m:=N2 (by lia)
  refine ⟨_,rfl,_,rfl,aN.mpr ⟨p,(m:Int),rfl,m8.bu.pot,by lia,by lia,λx H9 x0 x1 u9 =>?_⟩⟩
  have m9:=m8.bu' np u9
  refine ⟨_,rfl,_,rfl,aN.mpr ⟨p,(m:Int),rfl,m9.bu.pot,by lia,by lia,λy Ha y0 y1 ua =>?_⟩⟩
  have ma:=m9.bu' np ua
  refine ⟨(by show 2<=Ba;decide),λt ht =>?_⟩
  have g4:=ag ht (.tup ([x,y].map V.int))
  have et:upd Ha t (.tup ([x,y].map V.int)) t=some (.tup ([x,y].map V.int)):=ae
  have mb:=ma.same g4
  rw[show [V.int x,V.int y]=[x,y].map V.int from rfl]
  generalize upd Ha t (.tup ([x,y].map V.int))=Hb at g4 et mb
  refine ⟨_,rfl,_,rfl,la,t,us,[x,y],rfl,rfl,mb.at',mb.tu,et,_,rfl,bV (λz =>?_) λz =>?_⟩
  ·refine ⟨_,rfl,.inl ⟨rfl,_,SqL.of mb.at'⟩,_,rfl,la,_,_,rfl,rfl,mb.at',by rw[AN];exact aY (by lia),?_⟩
   refine ⟨⟨_,_,rfl⟩,_,zY mb hla np et,rg.snoc x0 x1 y0 y1,by rw[AR];show _+1<=_;lia,?_⟩
   rw[A3]
   refine DE.mpr ⟨ndu,Cq.mpr ⟨Dw,CB⟩,λx hx y hy e =>?_⟩
   have hy:=AZ.mp hy
   rw[e,hy] at hx
   rw[decide_eq_true hx] at z
   cases z
  ·exact ⟨⟨_,_,rfl⟩,us,mb,rg,by lia,ndu⟩
 ·rintro σ H8 ⟨⟨c5,c6,rfl⟩,us,m8',rg,lu,ndu⟩
  refine ⟨_,rfl,_,rfl,la,us,rfl,.inl (SqL.of m8'.at'),λt ht=>⟨SqT.of (m8'.tu t ht),?_⟩,λl2 out hl2 pm so =>?_⟩
  ·obtain ⟨x,y,e,_⟩:=rg t ht
   rw[e]
   intro z
   cases z
  refine ⟨l2,_,rfl,.inl ⟨SqL.of ae,λl3 hl3=>⟨(by show 2<=Ba;decide),λb hb =>?_⟩⟩⟩
  have gA:=((ag hl2 (.lst (out.map λt =>.ref t.1))).trans (ag hl3 (.tup (out.map λt =>.ref t.1)))).trans (ag hb (.tup [.int (m:Int),.ref l3]))
  have:out.length<=12:=by rw[pm.length_eq];lia
  exact q b m out _ (m8'.bu.same gA) ⟨⟨l3,ae,(ag hb _) _ _ ae⟩,λu hu=>gA _ _ (m8'.tu u (pm.mem_iff.mp hu)),λu hu=>rg u (pm.mem_iff.mp hu)⟩ (by lia) this (((pm.map (·.2)).nodup_iff).mpr ndu)
end
abbrev qb:Sp:=λvs H Q _=>∃(p:Addr) (m:Nat),vs=[.ref p,.int (m:Nat)]/\Pt 1 H p/\m<=40/\∀(b:Addr) (P:List Int) (H':Hp),Bu 1 p H H'->H' b=some (.tup (P.map V.int))->P.length<=m->Q (.ref b) H'
@[irreducible] def ki:Sp:=qb
theorem gn {vs:List V}{H:Hp}{Q:VK}{E:XK}:ki vs H Q E↔qb vs H Q E:=by
 delta ki
 exact CW
section
variable  {P:Bi}{w:BQ}{K:A0}{mg:Str->Option AS}{base:Heap}{f T:Addr}{fd:Cd}
theorem hU:aH ["pot", "many", "share"] ["pot", "many"] (ak fA):=⟨rfl,rfl,rfl,by decide +kernel,rfl,by decide +kernel,by decide +kernel⟩
theorem cK:(["place", "pot", "share"]:List Str).Nodup:=by decide +kernel
theorem mG (F:Fun K "_law_some_places" "_law_some_places" fA f fd)(B:Blt mg)(cLTake:Cal P w K mg base 1 "_law_take" ["pot", "many"] ij):bB P w K mg base CX0 2 f fd ["pot", "many"] ki:=by
 refine F.ok hU (λvs H Q E h =>?_) (λcdv A outer s H vs Q E hr h =>?_)
 ·obtain ⟨_,_,rfl,_⟩:=gn.mp h
  rfl
 obtain ⟨p,m,rfl,hp,m40,q⟩:=gn.mp h
 refine ⟨_,(@af _ _ _ _ _ (@au _ _ 2 _ _ _ _ hU.nd rfl (Or.inr rfl) (@aL _ _ _ _ _ _ _ _ bS ah (ax cLTake hr (by decide) rfl (@aa _ _ _ _ _ (pv 0) (@aa _ _ _ _ _ ah ab rfl) rfl))) rfl (by first | exact .inl rfl | exact .inr rfl | assumption))
  (@ai _ _ _ (@aD _ _ _ _ (aG aM rfl B.b_tuple aX (@aa _ _ _ _ _ (bF ["place", "pot", "share"] [none,some 0,some 2] rfl (aQ rfl B.b_range (@aa _ _ _ _ _ (pv 1) ab rfl)) rfl (λ_ _ _ _ _=>(aJ (i:=0) cK rfl (Or.inl rfl))) (λ_ _ _ _ _=>(cN (av kE (ax cLTake hr (by decide) rfl (@aa _ _ _ _ _ (pv 1) (@aa _ _ _ _ _ ah ab rfl) rfl)) (pv 2) (aE _)))) (λ_ _ _ _ _=>(pv 0))) ab rfl))))),?_⟩
 refine ⟨_,rfl,aN.mpr ⟨p,3,rfl,hp,by decide,by decide,λsh H1 s0 s1 u1 =>?_⟩⟩
 refine ⟨_,_,rfl,rfl,?_⟩
 refine ⟨_,rfl,(m:Int),rfl,by lia,by lia,?_⟩
 rw[B2]
 refine cp (λi ys H'=>Bu 1 p H H'/\∃P:List Int,ys=P.map V.int/\P.length<=i) ⟨u1,[],rfl,AY _⟩ (small (by lia)) ?_ ?_
 ·rintro i ys H2 hi hy ⟨b2,P,rfl,lP⟩ R1 R0 r1 r0
  refine ⟨_,rfl,aN.mpr ⟨p,4,rfl,b2.pot,by decide,by decide,λd H3 d0 d1 u3 =>?_⟩⟩
  refine ⟨_,rfl,_,_,rfl,rfl,_,rfl,bV (λz =>?_) λz =>?_⟩
  ·exact ⟨_,rfl,r1 _ _ ⟨b2.trans u3,P++[0+(i:Int)],by rw[A3];rfl,by rw[AR];show _+1<=_;lia⟩⟩
  ·exact r0 _ ⟨b2.trans u3,P,rfl,by lia⟩
 ·rintro ys H2 hy ⟨b2,P,rfl,lP⟩ l hl
  refine ⟨l,_,rfl,.inl ⟨SqL.of ae,λt ht =>?_⟩⟩
  exact q t P _ (b2.same ((ag hl _).trans (ag ht _))) ae lP
end
theorem jJ {P:List Int}{x:Int}{A B:Prop}(h1:x∉P->A)(h2:x∈P->B):if (if true=true then !inV (.int x) (P.map V.int) else inV (.int x) (P.map V.int))=true then A else B:=by
 rw[if_pos rfl,i4]
 by_cases c:x∈P
 ·rw[decide_eq_true c];exact bH (h2 c)
 ·rw[decide_eq_false c];exact cG (h1 c)
abbrev tf:Sp:=λvs H Q _=>∃(r q:Addr) (m:Nat) (ts:List (Addr×List Int)) (P:List Int),vs=[.ref r,.ref q]/\Ow H r (m:Int) ts/\ts.length<=250/\H q=some (.tup (P.map V.int))/\∀(b:Addr) (us:List (Addr×List Int)) (H':Hp),ay H H'->Ow H' b (m:Int) us->us.map (·.2)=(ts.map (·.2)).filter (gm P)->Q (.ref b) H'
@[irreducible] def lN:Sp:=tf
theorem fC {vs:List V}{H:Hp}{Q:VK}{E:XK}:lN vs H Q E↔tf vs H Q E:=by
 delta lN
 exact CW
section
variable  {P:Bi}{w:BQ}{K:A0}{mg:Str->Option AS}{base:Heap}{f T:Addr}{fd:Cd}
theorem qc:aH ["web", "places"] ["web", "places"] (ak ia):=⟨rfl,rfl,rfl,by decide +kernel,rfl,by decide +kernel,by decide +kernel⟩
theorem dQ:(["arrow", "places"]:List Str).Nodup:=by decide +kernel
theorem qd (F:Fun K "cut_oneway" "cut_oneway" ia f fd)(B:Blt mg):bB P w K mg base CX0 1 f fd ["web", "places"] lN:=by
 refine F.ok qc (λvs H Q E h =>?_) (λcdv A outer s H vs Q E hr h =>?_)
 ·obtain ⟨_,_,_,_,_,rfl,_⟩:=fC.mp h
  rfl
 obtain ⟨r,q,m,ts,P,rfl,W,tl,eq,k⟩:=fC.mp h
 refine ⟨_,(@ai _ _ _ (@aD _ _ _ _ (@a9 _ _ _ _ _ (@aa _ _ _ _ _ (@aA _ _ _ _ _ _ _ aB (pv 0) ah (λ_ _=>rfl)) (@aa _ _ _ _ _ (aG aM rfl B.b_tuple aX (@aa _ _ _ _ _ (bF ["arrow", "places"] [none,some 1] rfl (@cX _ _ _ _ (@aA _ _ _ _ _ _ _ aB (pv 0) ah (λ_ _=>rfl))) rfl (λ_ _ _ _ _=>(aJ (i:=0) dQ rfl (Or.inl rfl))) (λ_ _ _ _ _=>(cN (PW.pt (fK (av (dY (K:=K)) (@aA _ _ _ _ _ _ _ (cQ (K:=K)) (pv 0) ah (λ_ _=>rfl)) (pv 1) rfl) (dB (av (dY (K:=K)) (@aA _ _ _ _ _ _ _ (cQ (K:=K)) (pv 0) ah (λ_ _=>rfl)) (pv 1) rfl)))))) (λ_ _ _ _ _=>(pv 0))) ab rfl)) ab rfl) rfl)))),?_⟩
 obtain ⟨t,e1,e2⟩:=W.at'
 refine ⟨_,rfl,r,_,0,_,rfl,rfl,SqT.of e1,rfl,_,rfl,r,_,1,_,rfl,rfl,SqT.of e1,rfl,t,rfl,⟨_,SqT.of e2⟩,gC (xs:=ts.map λu =>.ref u.1) (λi ys H'=>H'=H/\ys=((ts.take i).filter λu=>gm P u.2).map λu =>.ref u.1) ⟨rfl,rfl⟩ (by rw[AN];exact small (by lia)) (λi ys H' _ k=>by rw[k.1];exact SqT.of e2) ?_ ?_⟩
 ·rintro i x ys H1 hx hy ⟨eH,rfl⟩ R1 R0 r1 r0
  obtain ⟨u,hu,rfl⟩:=pX hx
  have mu:=A8 hu
  obtain ⟨x,y,e3,_⟩:=W.rng u mu
  have hu1:=W.tup u mu
  rw[e3] at hu1
  rw[eH]
  have tk:∀c:Bool,gm P u.2=c->(ts.take (i+1)).filter (λu=>gm P u.2)=(ts.take i).filter (λu=>gm P u.2)++(if c=true then [u] else []):=λc ec=>by
   rw[BG,hu,Dt]
   congr 1
   cases c with
   | true=>rw[if_pos rfl];exact Df ec
   | false=>rw[if_neg Bf];exact Dg (by rw[ec];exact Bf)
  refine ⟨_,rfl,u.1,_,0,_,rfl,rfl,SqT.of hu1,rfl,_,rfl,q,_,rfl,.inr (SqT.of eq),rfl,bj P,_,rfl,jJ (λc1 =>?_) λc1 =>?_⟩
  ·refine ⟨_,rfl,u.1,_,1,_,rfl,rfl,SqT.of hu1,rfl,_,rfl,q,_,rfl,.inr (SqT.of eq),rfl,bj P,_,rfl,jJ (λc2 =>?_) λc2 =>?_⟩
   ·refine ⟨_,rfl,r1 _ _ ⟨rfl,?_⟩⟩
    rw[tk true (by rw[e3];show (!decide (x∈P) && !decide (y∈P))=true;rw[decide_eq_false c1,decide_eq_false c2];rfl),A3];rfl
   ·refine r0 _ ⟨rfl,?_⟩
    rw[tk false (by rw[e3];show (!decide (x∈P) && !decide (y∈P))=false;rw[decide_eq_true c2];simp)]
    exact congrArg _ (B7 _).symm
  ·refine bH (r0 _ ⟨rfl,?_⟩)
   rw[tk false (by rw[e3];show (!decide (x∈P) && !decide (y∈P))=false;rw[decide_eq_true c1];rfl)]
   exact congrArg _ (B7 _).symm
 ·rintro ys H1 hy ⟨eH,rfl⟩ l hl
  rw[eH] at hl ⊢
  rw[AN,Bb (AY _)]
  refine ⟨l,_,rfl,.inl ⟨SqL.of ae,λt2 ht2=>⟨(by show 2<=Ba;decide),λb hb =>?_⟩⟩⟩
  have gA:=((ag hl (.lst ((ts.filter λu=>gm P u.2).map λu =>.ref u.1))).trans (ag ht2 (.tup ((ts.filter λu=>gm P u.2).map λu =>.ref u.1)))).trans (ag hb (.tup [.int (m:Int),.ref t2]))
  refine k b (ts.filter λu=>gm P u.2) _ gA ⟨⟨t2,ae,(ag hb _) _ _ ae⟩,λu hu=>gA _ _ (W.tup u (Ce.mp hu).1),λu hu=>W.rng u (Ce.mp hu).1⟩ ?_
  rw[List.filter_map];rfl
end
abbrev tj:Sp:=λvs H Q _=>∃(r q:Addr) (m:Nat) (ts:List (Addr×List Int)) (P:List Int),vs=[.ref r,.ref q]/\Ow H r (m:Int) ts/\ts.length<=250/\H q=some (.tup (P.map V.int))/\∀(b:Addr) (us:List (Addr×List Int)) (H':Hp),ay H H'->Ow H' b (m:Int) us->us.map (·.2)=(ts.map (·.2)).filter (gm P)->Q (.ref b) H'
@[irreducible] def oF:Sp:=tj
theorem fD {vs:List V}{H:Hp}{Q:VK}{E:XK}:oF vs H Q E↔tj vs H Q E:=by
 delta oF
 exact CW
section
variable  {P:Bi}{w:BQ}{K:A0}{mg:Str->Option AS}{base:Heap}{f T:Addr}{fd:Cd}
theorem yh:aH ["web", "places"] ["web", "places"] (ak rf):=⟨rfl,rfl,rfl,by decide +kernel,rfl,by decide +kernel,by decide +kernel⟩
theorem ip:(["a", "b", "places"]:List Str).Nodup:=by decide +kernel
theorem yi (F:Fun K "_law_less" "_law_less" rf f fd)(B:Blt mg):bB P w K mg base CX0 1 f fd ["web", "places"] oF:=by
 refine F.ok yh (λvs H Q E h =>?_) (λcdv A outer s H vs Q E hr h =>?_)
 ·obtain ⟨_,_,_,_,_,rfl,_⟩:=fD.mp h
  rfl
 obtain ⟨r,q,m,ts,P,rfl,W,tl,eq,k⟩:=fD.mp h
 refine ⟨_,(@ai _ _ _ (@aD _ _ _ _ (@a9 _ _ _ _ _ (@aa _ _ _ _ _ (@aA _ _ _ _ _ _ _ aB (pv 0) ah (λ_ _=>rfl)) (@aa _ _ _ _ _ (aG aM rfl B.b_tuple aX (@aa _ _ _ _ _ (bF ["a", "b", "places"] [none,none,some 1] rfl (@cX _ _ _ _ (@aA _ _ _ _ _ _ _ aB (pv 0) ah (λ_ _=>rfl))) rfl (λ_ _ _ _ _=>(d9 (K:=K) (i:=0) (j:=1) ip rfl rfl (Or.inl rfl) (Or.inl rfl))) (λ_ _ _ _ _=>(cN (PW.pt (fK (av (dY (K:=K)) (pv 0) (pv 2) rfl) (dB (av (dY (K:=K)) (pv 1) (pv 2) rfl)))))) (λ_ _ _ _ _=>(@a9 _ _ _ _ _ (@aa _ _ _ _ _ (pv 0) (@aa _ _ _ _ _ (pv 1) ab rfl) rfl)))) ab rfl)) ab rfl) rfl)))),?_⟩
 obtain ⟨t,e1,e2⟩:=W.at'
 refine ⟨_,rfl,r,_,0,_,rfl,rfl,SqT.of e1,rfl,_,rfl,r,_,1,_,rfl,rfl,SqT.of e1,rfl,t,rfl,⟨_,SqT.of e2⟩,cT (ts:=ts.map λu:Addr×List Int=>(u.1,V.int (u.2.getD 0 0),V.int (u.2.getD 1 0))) (λi ys H'=>ay H H'/\∃us:List (Addr×List Int),ys=us.map (λu =>.ref u.1)/\Tus H' us/\us.map (·.2)=((ts.map (·.2)).take i).filter (gm P)/\us.length<=i) (by decide) ⟨ay.refl _,[],rfl,λu hu=>(by cases hu),rfl,AY _⟩ (by rw[AN];exact CK (small (by lia))) (λi ys H' _ k=>gO (W.same k.1) (k.1 _ _ e2)) ?_ ?_⟩
 ·rintro i v ys H1 hv hy ⟨s1,us,rfl,tu,eu,lu⟩ R1 R0 r1 r0
  obtain ⟨u,hu,rfl⟩:=gN hv
  have mu:=A8 hu
  obtain ⟨x,y,e3,_⟩:=W.rng u mu
  have g0:u.2.getD 0 0=x:=by rw[e3];rfl
  have g1:u.2.getD 1 0=y:=by rw[e3];rfl
  rw[g0,g1]
  have tk:∀c:Bool,gm P u.2=c->((ts.map (·.2)).take (i+1)).filter (gm P)=((ts.map (·.2)).take i).filter (gm P)++(if c=true then [u.2] else []):=λc ec=>by
   rw[BG,A4,hu,Dt]
   congr 1
   cases c with
   | true=>rw[if_pos rfl];exact Df ec
   | false=>rw[if_neg Bf];exact Dg (by rw[ec];exact Bf)
  have eq1:=s1 _ _ eq
  refine ⟨_,rfl,_,rfl,q,_,rfl,.inr (SqT.of eq1),rfl,bj P,_,rfl,jJ (λc1 =>?_) λc1 =>?_⟩
  ·refine ⟨_,rfl,_,rfl,q,_,rfl,.inr (SqT.of eq1),rfl,bj P,_,rfl,jJ (λc2 =>?_) λc2 =>?_⟩
   ·refine ⟨_,rfl,_,rfl,(by show 2<=Ba;decide),λc hc=>r1 _ _ ⟨s1.trans (ag hc _),us++[(c,[x,y])],by rw[A3];rfl,Tus.snoc (tu.same (ag hc _)) (u:=(c,[x,y])) ae,?_,by rw[AR];show _+1<=_;lia⟩⟩
    rw[tk true (by rw[e3];show (!decide (x∈P) && !decide (y∈P))=true;rw[decide_eq_false c1,decide_eq_false c2];rfl),A3,eu,e3];rfl
   ·refine r0 _ ⟨s1,us,rfl,tu,?_,by lia⟩
    rw[tk false (by rw[e3];show (!decide (x∈P) && !decide (y∈P))=false;rw[decide_eq_true c2];simp),eu]
    exact (B7 _).symm
  ·refine bH (r0 _ ⟨s1,us,rfl,tu,?_,by lia⟩)
   rw[tk false (by rw[e3];show (!decide (x∈P) && !decide (y∈P))=false;rw[decide_eq_true c1];rfl),eu]
   exact (B7 _).symm
 ·rintro ys H1 hy ⟨s1,us,rfl,tu,eu,lu⟩ l hl
  rw[AN,Bb (by rw[AN];exact AY _)] at eu
  refine ⟨l,_,rfl,.inl ⟨SqL.of ae,λt2 ht2=>⟨(by show 2<=Ba;decide),λb hb =>?_⟩⟩⟩
  have gA:=((ag hl (.lst (us.map λu =>.ref u.1))).trans (ag ht2 (.tup (us.map λu =>.ref u.1)))).trans (ag hb (.tup [.int (m:Int),.ref t2]))
  refine k b us _ (s1.trans gA) ⟨⟨t2,ae,(ag hb _) _ _ ae⟩,λu hu=>gA _ _ (tu u hu),λu hu =>?_⟩ eu
  have:u.2∈us.map (·.2):=Bh.mpr ⟨u,hu,rfl⟩
  rw[eu] at this
  obtain ⟨v,hv,e⟩:=Bh.mp (Ce.mp this).1
  rw[<- e]
  exact W.rng v hv
end
open PySem L2
theorem wH (xs:List V){k:Nat}(h:k<=xs.length):fE xs none (some (k:Int))=xs.take k:=by
 unfold fE HT.sIx
 simp only[show ¬ ((k:Int)<0) by lia,if_false,B2,Ic,Ep,show min k xs.length=k by lia]
theorem zZ (xs:List V){k:Nat}(h:k<=xs.length):fE xs (some (k:Int)) none=xs.drop k:=by
 unfold fE HT.sIx
 simp only[show ¬ ((k:Int)<0) by lia,if_false,B2,show min k xs.length=k by lia]
 exact Bb (by rw[Co];exact AY _)
theorem jK {α β:Type}(g:α -> β):∀(l:List α) (n:Nat),(l.map g).eraseIdx n=(l.eraseIdx n).map g
 | [],_=>rfl
 | _ :: _,0=>rfl
 | x :: l,n+1=>by
  show g x :: (l.map g).eraseIdx n=g x :: (l.eraseIdx n).map g
  rw[jK g l n]
theorem dg {α:Type}:∀(l:List α) (d:Nat) (h:d<l.length),(l[d] :: l.eraseIdx d).Perm l
 | [],_,h=>absurd h (DZ _)
 | a :: t,0,_ =>.refl _
 | a :: t,d+1,h=>(List.Perm.swap a (t[d]'(E3 h)) _).trans ((dg t d (E3 h)).cons a)
theorem nJ {α:Type}(l:List α)(k:Nat):∀x∈l.eraseIdx k,x∈l:=λx hx=>(GV l k).subset hx
abbrev qe:Sp:=λvs H Q _=>∃(p:Addr),vs=[.ref p]/\Pt 1 H p/\∀(b:Addr) (m:Nat) (ts:List (Addr×List Int)) (H':Hp),Bu 1 p H H'->Ow H' b (m:Int) ts->m<=40->ts.length<=50->(ts.map (·.2)).Nodup->Q (.ref b) H'
@[irreducible] def kj:Sp:=qe
theorem gp {vs:List V}{H:Hp}{Q:VK}{E:XK}:kj vs H Q E↔qe vs H Q E:=by
 delta kj
 exact CW
section
variable  {P:Bi}{w:BQ}{K:A0}{mg:Str->Option AS}{base:Heap}{f T:Addr}{fd:Cd}
theorem dj:aH ["pot", "web", "many", "arrows", "left", "order", "turn"] ["pot"] (ak ou):=⟨rfl,rfl,rfl,by decide +kernel,rfl,by decide +kernel,by decide +kernel⟩
theorem j7:(["k", "many"]:List Str).Nodup:=by decide +kernel
theorem iq:(["a", "b", "order"]:List Str).Nodup:=by decide +kernel
theorem wI (F:Fun K "_law_drawn" "_law_drawn" ou f fd)(B:Blt mg)(cLOneWay:Cal P w K mg base 2 "_law_one_way" ["pot", "most", "arrows"] sZ)(cLTake:Cal P w K mg base 1 "_law_take" ["pot", "many"] ij):bB P w K mg base CX0 3 f fd ["pot"] kj:=by
 refine F.ok dj (λvs H Q E h =>?_) (λcdv A outer s H vs Q E hr h =>?_)
 ·obtain ⟨_,rfl,_⟩:=gp.mp h
  rfl
 obtain ⟨p,rfl,hp,q⟩:=gp.mp h
 refine ⟨_,(@af _ _ _ _ _ (@au _ _ 1 _ _ _ _ dj.nd rfl (Or.inl rfl) (ax cLOneWay hr (by decide) rfl (@aa _ _ _ _ _ (pv 0) (@aa _ _ _ _ _ ah (@aa _ _ _ _ _ ah ab rfl) rfl) rfl)) rfl (by first | exact .inl rfl | exact .inr rfl | assumption))
  (@af _ _ _ _ _ (@a6 _ _ _ _ _ _ _ _ (av cy (ax cLTake hr (by decide) rfl (@aa _ _ _ _ _ (pv 0) (@aa _ _ _ _ _ ah ab rfl) rfl)) ah (aE _)) (@af _ _ _ _ _ (@au _ _ 2 _ _ _ _ dj.nd rfl (Or.inr rfl) (@aL _ _ _ _ _ _ _ _ bS ah (ax cLTake hr (by decide) rfl (@aa _ _ _ _ _ (pv 0) (@aa _ _ _ _ _ ah ab rfl) rfl))) rfl (by first | exact .inl rfl | exact .inr rfl | assumption))
   (@af _ _ _ _ _ (eZ (i:=3) ["k", "many"] [none,some 2] rfl dj.nd rfl rfl (aQ rfl B.b_range (@aa _ _ _ _ _ (pv 2) ab rfl)) rfl (λ_ _ _ _ _=>(aJ (i:=0) j7 rfl (Or.inl rfl))) (λ_ _ _ _ _=>fR) (λ_ _ _ _ _=>(@a9 _ _ _ _ _ (@aa _ _ _ _ _ (pv 0) (@aa _ _ _ _ _ (@aL _ _ _ _ _ _ _ _ hX (@aL _ _ _ _ _ _ _ _ nQ (@aL _ _ _ _ _ _ _ _ bS (pv 0) (pv 1)) ah) (pv 1)) ab rfl) rfl))))
   (@af _ _ _ _ _ (bE (cz Bt Fh Fi o3 (pv 3) (@aa _ _ _ _ _ (ax cLTake hr (by decide) rfl (@aa _ _ _ _ _ (pv 0) (@aa _ _ _ _ _ (pv 2) ab rfl) rfl)) ab rfl)))
   (@ai _ _ _ (@aD _ _ _ _ (@a9 _ _ _ _ _ (@aa _ _ _ _ _ (pv 2) (@aa _ _ _ _ _ (aG aM rfl B.b_tuple aX (@aa _ _ _ _ _ (az (kU (w:=w) rfl hr.hd) rfl B.b_sorted cC (@aa _ _ _ _ _ (aG (qP (w:=w) rfl hr.hd hr.units) rfl B.b_set wq (@aa _ _ _ _ _ (@aL _ _ _ _ _ _ _ _ xA (pv 3) (ba xt (@bO _ _ _ _ (@aa _ _ _ _ _ (@a9 _ _ _ _ _ (@aa _ _ _ _ _ ah (@aa _ _ _ _ _ (@aL _ _ _ _ _ _ _ _ nQ (pv 2) ah) ab rfl) rfl)) ab rfl)) bU (bq (ax cLTake hr (by decide) rfl (@aa _ _ _ _ _ (pv 0) (@aa _ _ _ _ _ ah ab rfl) rfl))))) ab rfl)) ab rfl)) ab rfl)) ab rfl) rfl))))))) aK)
  (@af _ _ _ _ _ (@a6 _ _ _ _ _ _ _ _ (av cy (ax cLTake hr (by decide) rfl (@aa _ _ _ _ _ (pv 0) (@aa _ _ _ _ _ ah ab rfl) rfl)) ah (aE _)) (@ai _ _ _ (@aD _ _ _ _ (pv 1))) aK)
  (@af _ _ _ _ _ (@au _ _ 4 _ _ _ _ dj.nd rfl (Or.inl rfl) (aG (fv hr.hd) rfl B.b_list iX (@aa _ _ _ _ _ (aG cI rfl B.b_range gg (@aa _ _ _ _ _ (@aA _ _ _ _ _ _ _ aB (pv 1) ah (λ_ _=>rfl)) ab rfl)) ab rfl)) rfl (by first | exact .inl rfl | exact .inr rfl | assumption))
  (@af _ _ _ _ _ (@au _ _ 5 _ _ _ _ dj.nd rfl (Or.inr rfl) (@bO _ _ _ _ ab) rfl (by first | exact .inl rfl | exact .inr rfl | assumption))
  (@af _ _ _ _ _ (@bR _ _ _ _ _ _ _ _ BZ rfl (aQ rfl B.b_range (@aa _ _ _ _ _ (@aA _ _ _ _ _ _ _ aB (pv 1) ah (λ_ _=>rfl)) ab rfl)) (aJ (i:=6) dj.nd rfl (Or.inl rfl))
   (@ai _ _ _ (bE (cz Bt BS BU a7 (pv 5) (@aa _ _ _ _ _ (cz Bt Fh Fi o3 (pv 4) (@aa _ _ _ _ _ (ax cLTake hr (by decide) rfl (@aa _ _ _ _ _ (pv 0) (@aa _ _ _ _ _ (az aO rfl B.b_len cj (@aa _ _ _ _ _ (pv 4) ab rfl)) ab rfl) rfl)) ab rfl)) ab rfl)))) (λ_=>rfl))
  (@ai _ _ _ (@aD _ _ _ _ (@a9 _ _ _ _ _ (@aa _ _ _ _ _ (@aA _ _ _ _ _ _ _ aB (pv 1) ah (λ_ _=>rfl)) (@aa _ _ _ _ _ (aG aM rfl B.b_tuple aX (@aa _ _ _ _ _ (bF ["a", "b", "order"] [none,none,some 5] rfl (@cX _ _ _ _ (@aA _ _ _ _ _ _ _ aB (pv 1) ah (λ_ _=>rfl))) rfl (λ_ _ _ _ _=>(d9 (K:=K) (i:=0) (j:=1) iq rfl rfl (Or.inl rfl) (Or.inl rfl))) (λ_ _ _ _ _=>(cN (av kE (wo (K:=K) Bt EY Gk nG (pv 2) (@aa _ _ _ _ _ (pv 0) ab rfl)) (wo (K:=K) Bt EY Gk nG (pv 2) (@aa _ _ _ _ _ (pv 1) ab rfl)) (aE _)))) (λ_ _ _ _ _=>(@a9 _ _ _ _ _ (@aa _ _ _ _ _ (pv 0) (@aa _ _ _ _ _ (pv 1) ab rfl) rfl)))) ab rfl)) ab rfl) rfl)))))))))),?_⟩
 refine ⟨_,rfl,jI.mpr ⟨p,rfl,hp,λb m ts H1 u1 W m7 tl ndt =>?_⟩⟩
 refine ⟨_,rfl,aN.mpr ⟨p,8,rfl,u1.pot,by decide,by decide,λd8 H2 d0 d1 u2'=>⟨rfl,_,rfl,bV (λz =>?_) λz =>?_⟩⟩⟩
 ·have u2:=u1.trans u2'
  refine ⟨_,rfl,aN.mpr ⟨p,32,rfl,u2.pot,by decide,by decide,λd32 H3 e0 e1 u3'=>⟨_,_,rfl,rfl,?_⟩⟩⟩
  have u3:=u2.trans u3'
  obtain ⟨n,hn⟩:∃n:Nat,(9+d32:Int)=n:=⟨(9+d32).toNat,by lia⟩
  refine iY ?_
  dsimp only
  rw[hn]
  have n40:n<=40:=by lia
  have n9:9<=n:=by lia
  refine ⟨_,rfl,(n:Int),rfl,by lia,by lia,?_⟩
  rw[B2]
  let W0:Nat->List V->Hp->Prop:=λi ys H'=>ay H3 H'/\∃us:List (Addr×List Int),ys=us.map (λu =>.ref u.1)/\Tus H' us/\Rg n us/\us.length=i
  refine cp W0 ⟨ay.refl _,[],rfl,λu hu=>(by cases hu),λu hu=>(by cases hu),rfl⟩ (small (by lia)) ?_ ?_
  ·rintro i ys H4 hi hy ⟨s4,us,rfl,tu,rg,lu⟩ R1 R0 r1 r0
   have a0:=FC (0+(i:Int)+n-1) (b:=(n:Int)) (by lia)
   have a1:=EW (0+(i:Int)+n-1) (b:=(n:Int)) (by lia)
   refine cG ⟨_,rfl,_,rfl,_,rfl,_,_,rfl,rfl,_,_,rfl,rfl,_,rfl,_,_,rfl,rfl,(by show (0:Int)<n;lia),(by show 2<=Ba;decide),λc hc=>r1 _ _ ⟨s4.trans (ag hc _),us++[(c,[0+(i:Int),(0+(i:Int)+n-1)%n])],by rw[A3];rfl,Tus.snoc (tu.same (ag hc _)) (u:=(c,[0+(i:Int),(0+(i:Int)+n-1)%n])) ae,rg.snoc (by lia) (by lia) a0 a1,by rw[AR,lu];rfl⟩⟩
  rintro ys H4 hy ⟨s4,us,rfl,tu,rg,lu⟩ la hla
  have g4:=ag hla (.lst (us.map λu =>.ref u.1))
  have ea:upd H4 la (.lst (us.map λu =>.ref u.1)) la=some (.lst (us.map λu =>.ref u.1)):=ae
  have u5:=u3.same (s4.trans g4)
  have hla0:=i3 (u3.same s4) hla
  have np:la≠p:=hp.ne hla0
  generalize upd H4 la (.lst (us.map λu =>.ref u.1))=H5 at g4 ea u5
  have tu5:=tu.same g4
  refine ⟨_,rfl,.inl ⟨rfl,_,SqL.of ea⟩,_,rfl,_,rfl,aN.mpr ⟨p,(n:Int),rfl,u5.pot,by lia,by lia,λi' H6 i0 i1 u6' =>?_⟩⟩
  obtain ⟨i,rfl⟩:∃i:Nat,i'=i:=⟨i'.toNat,by lia⟩
  have ea6:=u6'.st _ _ np ea
  have tu6:Tus H6 us:=tu5.bu u6' u5.pot
  have lm:(us.map λu=>V.ref u.1).length=us.length:=AN _
  refine ⟨la,_,(i:Int),i,V.ref us[i].1,rfl,rfl,ea6,by lia,by lia,?_,by rw[A4,AQ (by lia)];rfl,?_⟩
  ·exact Fo (by lia) (by rw[lm];lia)
  have u6:=u5.trans u6'
  have u7:=u6.bT hla0 np (.lst ((us.map λu=>V.ref u.1).eraseIdx i))
  have tp7:Tus (upd H6 la (.lst ((us.map λu=>V.ref u.1).eraseIdx i))) us:=λu hu=>by rw[aj (iA (tu6 u hu) ea6 (by intro z;cases z))];exact tu6 u hu
  have e7:upd H6 la (.lst ((us.map λu=>V.ref u.1).eraseIdx i)) la=some (.lst ((us.eraseIdx i).map λu=>V.ref u.1)):=by rw[ae,jK]
  generalize upd H6 la (.lst ((us.map λu=>V.ref u.1).eraseIdx i))=H7 at u7 tp7 e7
  refine ⟨_,rfl,_,rfl,_,rfl,_,_,rfl,rfl,(by show 2<=Ba;decide),λt8 ht8=>⟨(by show 1<=Ba;decide),λl8 hl8 =>?_⟩⟩
  have g8:=(ag ht8 (.tup [.int 0,.int ((n:Int)-1)])).trans (ag hl8 (.lst [.ref t8]))
  have et8:upd (upd H7 t8 (.tup [.int 0,.int ((n:Int)-1)])) l8 (.lst [.ref t8]) t8=some (.tup ([0,(n:Int)-1].map V.int)):=(ag hl8 _) _ _ ae
  have el8:upd (upd H7 t8 (.tup [.int 0,.int ((n:Int)-1)])) l8 (.lst [.ref t8]) l8=some (.lst [.ref t8]):=ae
  have u8:=u7.same g8
  have n8:l8≠p:=λe=>by
   obtain ⟨_,_,e'⟩:=(u7.same (ag ht8 (.tup [.int 0,.int ((n:Int)-1)]))).pot
   rw[e,e'] at hl8;cases hl8
  generalize upd (upd H7 t8 (.tup [.int 0,.int ((n:Int)-1)])) l8 (.lst [.ref t8])=H8 at g8 et8 el8 u8
  refine ⟨_,rfl,aN.mpr ⟨p,2,rfl,u8.pot,by decide,by decide,λj' H9 j0 j1 u9' =>?_⟩⟩
  obtain ⟨j,rfl⟩:∃j:Nat,j'=j:=⟨j'.toNat,by lia⟩
  have u9:=u8.trans u9'
  have el9:=u9'.st _ _ n8 el8
  have e9:=u9'.st _ _ np (g8 _ _ e7)
  have tu9:Tus H9 us:=(tp7.same g8).bu u9' u8.pot
  have et9:=u9'.tup u8.pot et8
  refine ⟨_,rfl,l8,_,rfl,SqL.of el9,λla' hla' =>?_⟩
  rw[wH _ (show j<=[V.ref t8].length by show j<=1;lia)]
  obtain ⟨ws0,ew0,hw0,lw0⟩:∃ws0:List (Addr×List Int),[V.ref t8].take j=ws0.map (λu=>V.ref u.1)/\(∀u∈ws0,u=(t8,[0,(n:Int)-1]))/\ws0.length<=1:=⟨([(t8,[0,(n:Int)-1])]:List (Addr×List Int)).take j,by rw[Gh];rfl,λu hu=>AZ.mp (Dz hu),by rw[B4];exact Il _ _⟩
  rw[ew0]
  have ga:=ag hla' (.lst (ws0.map λu=>V.ref u.1))
  have ea':upd H9 la' (.lst (ws0.map λu=>V.ref u.1)) la'=some (.lst (ws0.map λu=>V.ref u.1)):=ae
  generalize upd H9 la' (.lst (ws0.map λu=>V.ref u.1))=Ha at ga ea'
  have lx:(us.eraseIdx i).length<=n:=by have:=(GV us i).length_le;lia
  refine ⟨la,la',_,_,rfl,rfl,SqL.of (ga _ _ e9),SqL.of ea',by rw[AN,AN];exact small (by lia),λlb hlb =>?_⟩
  rw[<- A3]
  have gb:=ag hlb (.lst ((us.eraseIdx i++ws0).map λu=>V.ref u.1))
  have eb:upd Ha lb (.lst ((us.eraseIdx i++ws0).map λu=>V.ref u.1)) lb=some (.lst ((us.eraseIdx i++ws0).map λu=>V.ref u.1)):=ae
  generalize upd Ha lb (.lst ((us.eraseIdx i++ws0).map λu=>V.ref u.1))=Hb at gb eb
  have s9b:=ga.trans gb
  have tub:Tus Hb (us.eraseIdx i++ws0):=λu hu=>by
   rcases A7.mp hu with y | y
   ·exact s9b _ _ (tu9 u (nJ _ _ u y))
   ·rw[hw0 u y];exact s9b _ _ et9
  have rgb:Rg (n:Int) (us.eraseIdx i++ws0):=λu hu=>by
   rcases A7.mp hu with y | y
   ·exact rg u (nJ _ _ u y)
   ·rw[hw0 u y];exact ⟨0,(n:Int)-1,rfl,by lia,by lia,by lia,by lia⟩
  have lb':(us.eraseIdx i++ws0).length<=41:=by rw[AR];lia
  have nee:∀u∈us.eraseIdx i++ws0,u.2≠[]:=λu hu=>by
   obtain ⟨x,y,e,_⟩:=rgb u hu
   rw[e];intro z;cases z
  generalize us.eraseIdx i++ws0=xs at eb tub rgb lb' nee
  refine ⟨lb,xs,rfl,.inl (SqL.of eb),λu hu=>SqT.of (tub u hu),by lia,λsx ws hnx mw ndw cov hlw =>?_⟩
  have gx:=ag hnx (gW w sx (ws.map λt =>.ref t.1))
  refine ⟨sx,ws,rfl,ae,λu hu=>⟨SqT.of (gx _ _ (tub u (mw u hu))),nee u (mw u hu)⟩,by lia,λlo out hlo pm so =>?_⟩
  have go:=ag hlo (.lst (out.map λt =>.ref t.1))
  refine ⟨lo,_,rfl,.inl ⟨SqL.of ae,λl3 hl3=>⟨(by show 2<=Ba;decide),λb' hb =>?_⟩⟩⟩
  have gA:=((gx.trans go).trans (ag hl3 (.tup (out.map λt =>.ref t.1)))).trans (ag hb (.tup [.int (n:Int),.ref l3]))
  exact q b' n out _ (u9.same (s9b.trans gA)) ⟨⟨l3,ae,(ag hb _) _ _ ae⟩,λu hu=>gA _ _ (tub u (mw u (pm.mem_iff.mp hu))),λu hu=>rgb u (mw u (pm.mem_iff.mp hu))⟩ n40 (by rw[pm.length_eq];lia) (((pm.map (·.2)).nodup_iff).mpr ndw)
 have u2:=u1.trans u2'
 have W2:=W.bu u2' u1.pot
 refine ⟨_,rfl,aN.mpr ⟨p,2,rfl,u2.pot,by decide,by decide,λd2 H3 e0 e1 u3'=>⟨rfl,_,rfl,bV (λz =>?_) λz =>?_⟩⟩⟩
 ·exact ⟨_,rfl,q b m ts H3 (u2.trans u3') (W2.bu u3' u2.pot) (by lia) (by lia) ndt⟩
 have u3:=u2.trans u3'
 have W3:=W2.bu u3' u2.pot
 obtain ⟨t,e1,e2⟩:=W3.at'
 refine ⟨_,rfl,b,_,0,_,rfl,rfl,SqT.of e1,rfl,(m:Int),rfl,λra hra=>⟨ra,m,rfl,ae,by lia,λlf hlf =>?_⟩⟩
 have g1:=(ag hra (.rng 0 m)).trans (ag hlf (.lst ((Bw m).map λi:Nat=>V.int (i:Int))))
 have elf:upd (upd H3 ra (.rng 0 m)) lf (.lst ((Bw m).map λi:Nat=>V.int (i:Int))) lf=some (.lst ((rgI m).map V.int)):=by rw[ae];unfold rgI;rw[DD];rfl
 have hlf0:=i3 (u3.same (ag hra (.rng 0 m))) hlf
 have npf:lf≠p:=hp.ne hlf0
 have u4:=u3.same g1
 have W4:=W3.same g1
 generalize upd (upd H3 ra (.rng 0 m)) lf (.lst ((Bw m).map λi:Nat=>V.int (i:Int)))=H4 at g1 elf u4 W4
 refine ⟨(by show 0<=Ba;decide),λlo hlo =>?_⟩
 have hlo0:=i3 u4 hlo
 have npo:lo≠p:=hp.ne hlo0
 have nfo:lf≠lo:=aq elf hlo
 have g5:=ag hlo (.lst [])
 have elo:upd H4 lo (.lst []) lo=some (.lst (([]:List Int).map V.int)):=ae
 have u5:=u4.same g5
 have W5:=W4.same g5
 have elf5:=g5 _ _ elf
 generalize upd H4 lo (.lst [])=H5 at g5 elo u5 W5 elf5
 obtain ⟨t,e1,e2⟩:=W5.at'
 let W1:Nat->St->Hp->Prop:=λi σ H'=>(∃c6,σ=[some (.ref p),some (.ref b),none,none,some (.ref lf),some (.ref lo),c6])/\Bu 1 p H H'/\(∀x o,H5 x=some (.tup o)->H' x=some (.tup o))/\∃L os:List Int,H' lf=some (.lst (L.map V.int))/\H' lo=some (.lst (os.map V.int))/\L.length+i=m/\(L++os).Perm (rgI m)
 refine ⟨_,rfl,b,_,0,_,rfl,rfl,SqT.of e1,rfl,(m:Int),rfl,by lia,by lia,bh W1 ⟨⟨_,rfl⟩,u5,λ_ _ e=>e,rgI m,[],elf5,elo,by rw[dE];rfl,by rw[B7]⟩ ?_ ?_⟩
 ·rintro i σ H6 hi ⟨⟨c6,rfl⟩,u6,tp6,L,os,eL,eo,lL,pm⟩
  have lo6:os.length<=m:=by have:=pm.length_eq;rw[AR,dE] at this;lia
  refine ⟨_,rfl,.inl ⟨rfl,_,SqL.of eo⟩,_,rfl,.inl ⟨rfl,_,SqL.of eL⟩,_,rfl,_,rfl,lf,_,rfl,.inl (SqL.of eL),aN.mpr ⟨p,(L.length:Int),by rw[AN];rfl,u6.pot,by lia,by lia,λd' H7 d0 d1 u7' =>?_⟩⟩
  obtain ⟨d,rfl⟩:∃d:Nat,d'=d:=⟨d'.toNat,by lia⟩
  have hd:d<L.length:=by lia
  have u7:=u6.trans u7'
  have eL7:=u7'.st _ _ npf eL
  have eo7:=u7'.st _ _ npo eo
  refine ⟨lf,_,(d:Int),d,.int L[d],rfl,rfl,eL7,by lia,by lia,Fo (by lia) (by rw[AN];lia),by rw[A4,AQ hd];rfl,?_⟩
  have u8:=u7.bT hlf0 npf (.lst ((L.map V.int).eraseIdx d))
  have eo8:upd H7 lf (.lst ((L.map V.int).eraseIdx d)) lo=some (.lst (os.map V.int)):=by rw[aj nfo.symm];exact eo7
  refine ⟨lo,_,_,rfl,rfl,eo8,by rw[AN];exact aY (by lia),?_⟩
  refine ⟨⟨_,rfl⟩,u8.bT hlo0 npo _,λx o e =>?_,L.eraseIdx d,os++[L[d]],?_,?_,?_,?_⟩
  ·have e7:=u7'.tup u6.pot (tp6 x o e)
   rw[aj (λz =>?_),aj (λz =>?_)]
   ·exact e7
   ·rw[z,eL7] at e7;cases e7
   ·rw[z,eo7] at e7;cases e7
  ·rw[aj nfo,ae,jK]
  ·rw[ae,A3];rfl
  ·rw[List.length_eraseIdx_of_lt hd];lia
  ·refine List.Perm.trans ?_ pm
   have:=dg L d hd
   have h1:(L.eraseIdx d++(os++[L[d]])).Perm (L[d] :: L.eraseIdx d++os):=by
    rw[<- BV]
    exact Dp
   exact h1.trans (this.append_right os)
 rintro σ H6 ⟨⟨c6,rfl⟩,u6,tp6,L,os,eL,eo,lL,pm⟩
 rw[B2] at lL
 have L0:L=[]:=Fp (by lia)
 rw[L0,ER] at pm
 have lo6:os.length<=m:=by have:=pm.length_eq;rw[dE] at this;lia
 have W6:Ow H6 b (m:Int) ts:=⟨⟨t,tp6 _ _ e1,tp6 _ _ e2⟩,λu hu=>tp6 _ _ (W5.tup u hu),W5.rng⟩
 have e16:=tp6 _ _ e1
 have e26:=tp6 _ _ e2
 refine ⟨_,rfl,b,_,0,_,rfl,rfl,SqT.of e16,rfl,_,rfl,b,_,1,_,rfl,rfl,SqT.of e16,rfl,t,rfl,⟨_,SqT.of e26⟩,cT (ts:=ts.map λu:Addr×List Int=>(u.1,V.int (u.2.getD 0 0),V.int (u.2.getD 1 0))) (λi ys H'=>ay H6 H'/\∃us:List (Addr×List Int),ys=us.map (λu =>.ref u.1)/\Tus H' us/\Rg m us/\us.length<=i/\(us.map (·.2)).Sublist ((ts.map (·.2)).take i)) (by decide) ⟨ay.refl _,[],rfl,λu hu=>(by cases hu),λu hu=>(by cases hu),AY _,List.nil_sublist _⟩ (by rw[AN];exact CK (small (by lia))) (λi ys H' _ k=>gO (W6.same k.1) (k.1 _ _ e26)) ?_ ?_⟩
 ·rintro i v ys H7 hv hy ⟨s7,us,rfl,tu,rg,lu,sbu⟩ R1 R0 r1 r0
  obtain ⟨u,hu,rfl⟩:=gN hv
  obtain ⟨x,y,e3,x0,x1,y0,y1⟩:=W6.rng u (A8 hu)
  have g0:u.2.getD 0 0=x:=by rw[e3];rfl
  have g1:u.2.getD 1 0=y:=by rw[e3];rfl
  rw[g0,g1]
  have eo7:=s7 _ _ eo
  have tk:(ts.map (·.2)).take (i+1)=(ts.map (·.2)).take i++[[x,y]]:=by rw[BG,A4,hu, <- e3];rfl
  have mo:∀v:Int,0<=v->v<m->v∈os:=λv v0 v1=>pm.mem_iff.mpr (bG.mpr ⟨v0,v1⟩)
  refine ⟨_,rfl,.inl ⟨rfl,_,SqL.of eo7⟩,_,rfl,lo,os,x,rfl,rfl,eo7,mo x x0 x1,by lia,_,rfl,.inl ⟨rfl,_,SqL.of eo7⟩,_,rfl,lo,os,y,rfl,rfl,eo7,mo y y0 y1,by lia,_,_,rfl,rfl,_,rfl,bV (λz =>?_) λz =>?_⟩
  ·exact ⟨_,rfl,_,rfl,(by show 2<=Ba;decide),λc hc=>r1 _ _ ⟨s7.trans (ag hc _),us++[(c,[x,y])],by rw[A3];rfl,Tus.snoc (tu.same (ag hc _)) (u:=(c,[x,y])) ae,rg.snoc x0 x1 y0 y1,by rw[AR];show _+1<=_;lia,by rw[tk,A3];exact sbu.append (List.Sublist.refl _)⟩⟩
  ·exact r0 _ ⟨s7,us,rfl,tu,rg,by lia,by rw[tk];exact sbu.trans (List.sublist_append_left _ _)⟩
 ·rintro ys H7 hy ⟨s7,us,rfl,tu,rg,lu,sbu⟩ l hl
  rw[AN] at lu
  rw[AN,Bb (by rw[AN];exact AY _)] at sbu
  refine ⟨l,_,rfl,.inl ⟨SqL.of ae,λl3 hl3=>⟨(by show 2<=Ba;decide),λb' hb =>?_⟩⟩⟩
  have gA:=((ag hl (.lst (us.map λu =>.ref u.1))).trans (ag hl3 (.tup (us.map λu =>.ref u.1)))).trans (ag hb (.tup [.int (m:Int),.ref l3]))
  exact q b' m us _ (u6.same (s7.trans gA)) ⟨⟨l3,ae,(ag hb _) _ _ ae⟩,λu hu=>gA _ _ (tu u hu),rg⟩ (by lia) (by lia) (sbu.nodup ndt)
end
open PySem L2
theorem owPr {H:Hp}{b:Addr}{m:Int}{us:List (Addr×List Int)}(W:Ow H b m us):∀a b:Int,[a,b]∈us.map (·.2)->(0<=a/\a<m)/\0<=b/\b<m:=λa b h=>by
 obtain ⟨u,hu,e'⟩:=Bh.mp h
 obtain ⟨x,y,e,x0,x1,y0,y1⟩:=W.rng u hu
 rw[e] at e'
 cases e'
 exact ⟨⟨x0,x1⟩,y0,y1⟩
abbrev tm:Sp:=λvs H Q _=>∃(r:Addr) (m:Nat) (us:List (Addr×List Int)),vs=[.ref r]/\Ow H r (m:Int) us/\m<=40/\us.length<=250/\∀(b:Bool) (H':Hp),ay H H'->(∀G,Gr m (us.map (·.2)) G->Stk m (us.map (·.2)) G->(b=true↔G.length=m))->Q (.bl b) H'
@[irreducible] def lQ:Sp:=tm
theorem dk {vs:List V}{H:Hp}{Q:VK}{E:XK}:lQ vs H Q E↔tm vs H Q E:=by
 delta lQ
 exact CW
section
variable  {P:Bi}{w:BQ}{K:A0}{mg:Str->Option AS}{base:Heap}{f T:Addr}{fd:Cd}
theorem cx:aH ["web", "left", "turn", "heads"] ["web"] (ak f9):=⟨rfl,rfl,rfl,by decide +kernel,rfl,by decide +kernel,by decide +kernel⟩
theorem fG:(["a", "b", "left"]:List Str).Nodup:=by decide +kernel
theorem dR:(["place", "heads"]:List Str).Nodup:=by decide +kernel
theorem oG (F:Fun K "_law_round_free" "_law_round_free" f9 f fd)(B:Blt mg):bB P w K mg base CX0 1 f fd ["web"] lQ:=by
 refine F.ok cx (λvs H Q E h =>?_) (λcdv A outer s H vs Q E hr h =>?_)
 ·obtain ⟨_,_,_,rfl,_⟩:=dk.mp h
  rfl
 obtain ⟨r,m,us,rfl,W,m40,ul,q⟩:=dk.mp h
 refine ⟨_,(@af _ _ _ _ _ (@au _ _ 1 _ _ _ _ cx.nd rfl (Or.inr rfl) (aG (fv hr.hd) rfl B.b_list iX (@aa _ _ _ _ _ (aG cI rfl B.b_range gg (@aa _ _ _ _ _ (@aA _ _ _ _ _ _ _ aB (pv 0) ah (λ_ _=>rfl)) ab rfl)) ab rfl)) rfl (by first | exact .inl rfl | exact .inr rfl | assumption))
  (@af _ _ _ _ _ (@bR _ _ _ _ _ _ _ _ BZ rfl (aQ rfl B.b_range (@aa _ _ _ _ _ (@aA _ _ _ _ _ _ _ aB (pv 0) ah (λ_ _=>rfl)) ab rfl)) (aJ (i:=2) cx.nd rfl (Or.inl rfl))
   (@af _ _ _ _ _ (@au _ _ 3 _ _ _ _ cx.nd rfl (Or.inr rfl) (bF ["a", "b", "left"] [none,none,some 1] rfl (@cX _ _ _ _ (@aA _ _ _ _ _ _ _ aB (pv 0) ah (λ_ _=>rfl))) rfl (λ_ _ _ _ _=>(d9 (K:=K) (i:=0) (j:=1) fG rfl rfl (Or.inl rfl) (Or.inl rfl))) (λ_ _ _ _ _=>(cN (av (js (K:=K)) (pv 0) (pv 2) rfl))) (λ_ _ _ _ _=>(pv 1))) rfl (by first | exact .inl rfl | exact .inr rfl | assumption))
   (@ai _ _ _ (@au _ _ 1 _ _ _ _ cx.nd rfl (Or.inr rfl) (bF ["place", "heads"] [none,some 3] rfl (@dC _ _ _ _ (pv 1)) rfl (λ_ _ _ _ _=>(aJ (i:=0) dR rfl (Or.inl rfl))) (λ_ _ _ _ _=>(cN (av (js (K:=K)) (pv 0) (pv 1) rfl))) (λ_ _ _ _ _=>(pv 0))) rfl (by first | exact .inl rfl | exact .inr rfl | assumption)))) (λ_=>rfl))
  (@ai _ _ _ (@aD _ _ _ _ (cu (sM hr) (pv 1) (@bO _ _ _ _ ab) (aE _)))))),?_⟩
 obtain ⟨t,e1,e2⟩:=W.at'
 refine ⟨_,rfl,r,_,0,_,rfl,rfl,SqT.of e1,rfl,(m:Int),rfl,λra hra=>⟨ra,m,rfl,ae,by lia,λlf0 hlf0 =>?_⟩⟩
 have g1:=(ag hra (.rng 0 m)).trans (ag hlf0 (.lst ((Bw m).map λi:Nat=>V.int (i:Int))))
 have elf0:upd (upd H ra (.rng 0 m)) lf0 (.lst ((Bw m).map λi:Nat=>V.int (i:Int))) lf0=some (.lst ((rgI m).map V.int)):=by rw[ae];unfold rgI;rw[DD];rfl
 generalize upd (upd H ra (.rng 0 m)) lf0 (.lst ((Bw m).map λi:Nat=>V.int (i:Int)))=H1 at g1 elf0
 let W0:Nat->St->Hp->Prop:=λi σ H'=>∃(c3 c4:Option V) (lf:Addr) (L:List Int),σ=[some (.ref r),some (.ref lf),c3,c4]/\ay H H'/\H' lf=some (.lst (L.map V.int))/\L.length<=m/\(∀G,Gr m (us.map (·.2)) G->Stk m (us.map (·.2)) G->∀v:Int,0<=v->v<m->v∉G->v∈L)/\∀G,Gr m (us.map (·.2)) G->G.length=m->∀v∈L,v∈G.drop i
 refine ⟨_,rfl,r,_,0,_,rfl,rfl,SqT.of (g1 _ _ e1),rfl,(m:Int),rfl,by lia,by lia,bh W0 ⟨_,_,lf0,rgI m,rfl,g1,elf0,by rw[dE];exact AY _,λG _ _ v v0 v1 _=>bG.mpr ⟨v0,v1⟩,λG h hl v hv=>h.full hl (bG.mp hv).1 (bG.mp hv).2⟩ ?_ ?_⟩
 ·rintro i σ H2 hi ⟨c3,c4,lf,L,rfl,s2,el,lL,iS,iG⟩
  have A2:=W.same s2
  have e12:=s2 _ _ e1
  have e22:=s2 _ _ e2
  refine ⟨_,rfl,r,_,1,_,rfl,rfl,SqT.of e12,rfl,t,rfl,⟨_,SqT.of e22⟩,cT (ts:=us.map λu:Addr×List Int=>(u.1,V.int (u.2.getD 0 0),V.int (u.2.getD 1 0))) (λi ys H'=>H'=H2/\∃hs:List Int,ys=hs.map V.int/\hs.length<=i/\∀v,v∈hs↔∃a∈L,[a,v]∈(us.take i).map (·.2)) (by decide) ⟨rfl,[],rfl,AY _,λv=>⟨λz=>(by cases z),λ⟨a,_,z⟩=>(by cases z)⟩⟩ (by rw[AN];exact CK (small (by lia))) (λi ys H' _ k=>by rw[k.1];exact gO A2 e22) ?_ ?_⟩
  ·rintro j t ys Ha ht hy ⟨eH,hs,rfl,lh,hh⟩ R1 R0 r1 r0
   obtain ⟨u,hu,rfl⟩:=gN ht
   obtain ⟨x,y,e3,_⟩:=W.rng u (A8 hu)
   rw[eH]
   have g0:u.2.getD 0 0=x:=by rw[e3];rfl
   have g1:u.2.getD 1 0=y:=by rw[e3];rfl
   have tk:(us.take (j+1)).map (·.2)=(us.take j).map (·.2)++[[x,y]]:=by rw[BG,hu,A3, <- e3];rfl
   rw[g0,g1]
   refine ⟨_,rfl,_,rfl,lf,_,rfl,.inl (SqL.of el),rfl,bj L,_,rfl,?_⟩
   show if (if false=true then _ else inV (.int x) (L.map V.int))=true then _ else _
   rw[if_neg Bf,i4]
   refine bV (λz =>?_) λz =>?_
   ·have z:=of_decide_eq_true z
    refine ⟨_,rfl,r1 _ _ ⟨rfl,hs++[y],by rw[A3];rfl,by rw[AR];show _+1<=_;lia,λv =>?_⟩⟩
    rw[A7,AZ,hh v,tk]
    constructor
    ·rintro (⟨a,ha,h⟩ | rfl)
     ·exact ⟨a,ha,BD _ h⟩
     ·exact ⟨x,z,Bn _ (AZ.mpr rfl)⟩
    ·rintro ⟨a,ha,h⟩
     rcases A7.mp h with h | h
     ·exact .inl ⟨a,ha,h⟩
     ·have:=AZ.mp h
      cases this
      exact .inr rfl
   ·have z:x∉L:=λy=>z (decide_eq_true y)
    refine r0 _ ⟨rfl,hs,rfl,by lia,λv =>?_⟩
    rw[hh v,tk]
    constructor
    ·rintro ⟨a,ha,h⟩
     exact ⟨a,ha,BD _ h⟩
    ·rintro ⟨a,ha,h⟩
     rcases A7.mp h with h | h
     ·exact ⟨a,ha,h⟩
     ·have:=AZ.mp h
      cases this
      exact absurd ha z
  rintro ys Ha hy ⟨eH,hs,rfl,lh,hh⟩ lh' hlh
  rw[eH] at hlh ⊢
  rw[AN,Bb (AY _)] at hh
  rw[AN] at lh
  have g3:=ag hlh (.lst (hs.map V.int))
  have elh:upd H2 lh' (.lst (hs.map V.int)) lh'=some (.lst (hs.map V.int)):=ae
  have el3:=g3 _ _ el
  generalize upd H2 lh' (.lst (hs.map V.int))=H3 at g3 elh el3
  let W1:Nat->List V->Hp->Prop:=λi ys H'=>H'=H3/\∃L':List Int,ys=L'.map V.int/\L'.length<=i/\∀v,v∈L'↔v∈L.take i/\v∈hs
  refine ⟨_,rfl,lf,rfl,⟨_,SqL.of el3⟩,fe (xs:=L.map V.int) W1 ⟨rfl,[],rfl,AY _,λv=>⟨λz=>(by cases z),λz=>(by cases z.1)⟩⟩ (by rw[AN];exact small (by lia)) (λi ys H' _ k=>by rw[k.1];exact SqL.of el3) ?_ ?_⟩
  ·rintro j x ys Ha hx hy ⟨eH,L',rfl,lL',hL'⟩ R1 R0 r1 r0
   obtain ⟨v,ev,rfl⟩:=nE hx
   rw[eH]
   refine ⟨_,rfl,_,rfl,lh',_,rfl,.inl (SqL.of elh),rfl,bj hs,_,rfl,?_⟩
   show if (if false=true then _ else inV (.int v) (hs.map V.int))=true then _ else _
   rw[if_neg Bf,i4]
   have tk:L.take (j+1)=L.take j++[v]:=by rw[BG,ev];rfl
   refine bV (λz =>?_) λz =>?_
   ·have z:=of_decide_eq_true z
    refine ⟨_,rfl,r1 _ _ ⟨rfl,L'++[v],by rw[A3];rfl,by rw[AR];show _+1<=_;lia,λx =>?_⟩⟩
    rw[A7,AZ,hL' x,tk,A7,AZ]
    constructor
    ·rintro (h | rfl)
     ·exact ⟨.inl h.1,h.2⟩
     ·exact ⟨.inr rfl,z⟩
    ·rintro ⟨h | h,h2⟩
     ·exact .inl ⟨h,h2⟩
     ·exact .inr h
   ·have z:v∉hs:=λy=>z (decide_eq_true y)
    refine r0 _ ⟨rfl,L',rfl,by lia,λx =>?_⟩
    rw[hL' x,tk,A7,AZ]
    constructor
    ·exact λh=>⟨.inl h.1,h.2⟩
    ·rintro ⟨h | h,h2⟩
     ·exact ⟨h,h2⟩
     ·subst h;exact absurd h2 z
  rintro ys Ha hy2 ⟨eH,L',rfl,lL',hL'⟩ lf' hlf'
  rw[eH] at hlf' ⊢
  rw[AN,Bb (AY _)] at hL'
  rw[AN] at lL'
  refine ⟨_,_,lf',L',rfl,s2.trans (g3.trans (ag hlf' _)),ae,by lia,λG hG hS=>hS.turn (λa b h=>(owPr W a b h).1) (λv h1 h2=>(hL' v).mpr ⟨h1,(hh v).mpr h2⟩) (iS G hG hS),λG hG hl=>hG.turn (L:=L) (L':=L') (λv hv=>⟨((hL' v).mp hv).1,(hh v).mp ((hL' v).mp hv).2⟩) (iG G hG hl)⟩
 rintro σ H2 ⟨c3,c4,lf,L,rfl,s2,el,lL,iS,iG⟩
 rw[B2] at iG
 refine ⟨_,rfl,(by show 0<=Ba;decide),λl9 hl9 =>?_⟩
 have g9:=ag hl9 (.lst [])
 refine ⟨lf,l9,L,[],rfl,rfl,SqL.of (g9 _ _ el),SqL.of ae,q _ _ (s2.trans g9) λG hG hS =>?_⟩
 rw[decide_eq_true_iff]
 constructor
 ·intro e
  apply BA
  intro n
  obtain ⟨v,v0,v1,nv⟩:=hG.zT n
  have:=iS G hG hS v v0 v1 nv
  rw[e] at this
  cases this
 ·intro hl
  apply List.eq_nil_iff_forall_not_mem.mpr
  intro v hv
  have:=iG G hG hl v hv
  rw[List.drop_of_length_le (by lia)] at this
  cases this
end
open PySem L2
def bX (Z:List Int)(n:Nat):List (List Int):=(Bw n).map λi=>[if i=0 then Z.getD (Z.length-1) 0 else Z.getD (i-1) 0,Z.getD i 0]
theorem oH (Z:List Int)(n:Nat):bX Z (n+1)=bX Z n++[[if n=0 then Z.getD (Z.length-1) 0 else Z.getD (n-1) 0,Z.getD n 0]]:=by
 unfold bX
 rw[IJ,A3];rfl
theorem yj {Z:List Int}{i:Nat}(h:i<Z.length):atI (Z.map V.int) ((i:Int)-1)=some (.int (if i=0 then Z.getD (Z.length-1) 0 else Z.getD (i-1) 0)):=by
 unfold atI
 by_cases c:i=0
 ·subst c
  rw[if_pos rfl]
  have e:ixN (Z.map V.int).length (((0:Nat):Int)-1)=some (Z.length-1):=by
   rw[AN];unfold ixN;simp;lia
  rw[e]
  show (Z.map V.int)[Z.length-1]? = _
  rw[A4,A6,AQ (by lia)];rfl
 ·rw[if_neg c]
  have e0:((i:Int)-1)=((i-1:Nat):Int):=by lia
  rw[e0]
  show atI (Z.map V.int) ((i-1:Nat):Int)=_
  refine bP ?_
  rw[A4,A6,AQ (by lia)];rfl
theorem nK:∀{Z us:List Int},us.Nodup->(∀x,x∈us↔x∈Z)->us.length=Z.length->Z.Nodup
 | [],_,_,_,_=>CB
 | a :: t,us,nd,mem,l=>by
  have na:a∉t:=λh=>by
   have:=Dq nd (l₂:=t) λx hx=>by
    rcases Bs.mp ((mem x).mp hx) with z | z
    ·rw[z];exact h
    ·exact z
   rw[BP] at l
   lia
  have ha:a∈us:=(mem a).mpr Be
  refine Cq.mpr ⟨na,nK (us:=us.erase a) (nd.erase a) (λx =>?_) ?_⟩
  ·rw[nd.mem_erase_iff,mem x,Bs]
   constructor
   ·rintro ⟨h1,h2 | h2⟩
    ·exact absurd h2 h1
    ·exact h2
   ·intro h
    exact ⟨λe=>na (e ▸ h),.inr h⟩
  ·rw[List.length_erase_of_mem ha,l,BP];rfl
def Rd (E:List (List Int))(Z:List Int):Prop:=Z≠[]/\Z.Nodup/\∀t∈bX Z Z.length,t∈E
instance (E:List (List Int)) (Z:List Int):Decidable (Rd E Z):=by unfold Rd;infer_instance
abbrev wJ:Sp:=λvs H Q _=>∃(r p:Addr) (m:Nat) (ts:List (Addr×List Int)) (Z:List Int),vs=[.ref r,.ref p]/\Ow H r (m:Int) ts/\H p=some (.tup (Z.map V.int))/\Z.length<=290/\∀(b:Bool) (H':Hp),ay H H'->(b=true↔Rd (ts.map (·.2)) Z)->Q (.bl b) H'
@[irreducible] def qf:Sp:=wJ
theorem gP {vs:List V}{H:Hp}{Q:VK}{E:XK}:qf vs H Q E↔wJ vs H Q E:=by
 delta qf
 exact CW
section
variable  {P:Bi}{w:BQ}{K:A0}{mg:Str->Option AS}{base:Heap}{f T:Addr}{fd:Cd}
theorem rC:aH ["web", "places"] ["web", "places"] (ak jD):=⟨rfl,rfl,rfl,by decide +kernel,rfl,by decide +kernel,by decide +kernel⟩
theorem eQ:(["k", "places", "web"]:List Str).Nodup:=by decide +kernel
theorem rD (F:Fun K "_law_is_round" "_law_is_round" jD f fd)(B:Blt mg):bB P w K mg base CX0 1 f fd ["web", "places"] qf:=by
 refine F.ok rC (λvs H Q E h =>?_) (λcdv A outer s H vs Q E hr h =>?_)
 ·obtain ⟨_,_,_,_,_,rfl,_⟩:=gP.mp h
  rfl
 obtain ⟨r,p,m,ts,Z,rfl,W,ep,l5,q⟩:=gP.mp h
 refine ⟨_,(@af _ _ _ _ _ (@a6 _ _ _ _ _ _ _ _ (PW.pt (fL (fM (eX (az ck rfl B.b_isinstance bN (@aa _ _ _ _ _ (pv 1) (@aa _ _ _ _ _ (gB (v :=.ty "tuple") rfl B.b_tuple aX rfl) ab rfl) rfl)))) (fL (av cy (az aO rfl B.b_len cj (@aa _ _ _ _ _ (pv 1) ab rfl)) ah (aE _)) (fJ (av kE (az pW rfl B.b_len cj (@aa _ _ _ _ _ (aG (qQ (w:=w) rfl hr.hd) rfl B.b_set wq (@aa _ _ _ _ _ (pv 1) ab rfl)) ab rfl)) (az aO rfl B.b_len cj (@aa _ _ _ _ _ (pv 1) ab rfl)) (aE _)))))) (@ai _ _ _ (@aD _ _ _ _ kA)) aK)
  (@ai _ _ _ (@aD _ _ _ _ (az (iI rfl) rfl B.b_all ox (@aa _ _ _ _ _ (bF ["k", "places", "web"] [none,some 1,some 0] rfl (aQ rfl B.b_range (@aa _ _ _ _ _ (az aO rfl B.b_len cj (@aa _ _ _ _ _ (pv 1) ab rfl)) ab rfl)) rfl (λ_ _ _ _ _=>(aJ (i:=0) eQ rfl (Or.inl rfl))) (λ_ _ _ _ _=>fR) (λ_ _ _ _ _=>(cu (su (hu8 hr)) (@a9 _ _ _ _ _ (@aa _ _ _ _ _ (@aA _ _ _ _ _ _ _ (cQ (K:=K)) (pv 1) (@aL _ _ _ _ _ _ _ _ nQ (pv 0) ah) (λ_ _=>rfl)) (@aa _ _ _ _ _ (@aA _ _ _ _ _ _ _ (cQ (K:=K)) (pv 1) (pv 0) (λ_ _=>rfl)) ab rfl) rfl)) (@aA _ _ _ _ _ _ _ (cQ (K:=K)) (pv 2) ah (λ_ _=>rfl)) rfl))) ab rfl))))),?_⟩
 have lz:(Z.map V.int).length=Z.length:=AN _
 refine ⟨_,rfl,.ref p, "tuple",_,true,rfl,.tup ep,rfl,_,rfl,bH ?_⟩
 refine ⟨_,rfl,p,_,rfl,.inr (SqT.of ep),rfl,_,rfl,bV (λz =>?_) λz =>?_⟩
 ·have z:=V.int.inj (of_decide_eq_true z)
  rw[lz] at z
  exact cG (q false H (ay.refl _) ⟨(λh=>by cases h),λh=>absurd (Fp (by lia)) h.1⟩)
 have ne:Z≠[]:=λe=>z (decide_eq_true (by rw[e];rfl))
 refine ⟨_,rfl,p,Z,rfl,.inr (SqT.of ep),by lia,λa us ha mu nu lu =>?_⟩
 have ga:=ag ha (gW w a (us.map V.int))
 refine ⟨a,us.map V.int,rfl,ae,by rw[AN];lia,?_⟩
 generalize upd H a (gW w a (us.map V.int))=H1 at ga
 have s1:=ga
 have ep1:=ga _ _ ep
 refine ⟨_,rfl,p,_,rfl,.inr (SqT.of ep1),_,_,rfl,rfl,_,rfl,?_⟩
 refine bV (λz2 =>?_) λz2 =>?_
 ·refine q false H1 s1 ⟨(λh=>by cases h),λh =>?_⟩
  rw[lz,AN] at z2
  have e:us.length=Z.length:=((FK nu h.2.1).mpr mu).length_eq
  rw[e] at z2
  simp at z2
 rw[lz,AN] at z2
 have eq:us.length=Z.length:=by
  apply BA
  intro n
  apply z2
  have:us.length<=Z.length:=lu
  exact decide_eq_true (by lia)
 have nd:=nK nu mu eq
 obtain ⟨t,e1,e2⟩:=(W.same s1).at'
 refine ⟨_,rfl,p,_,rfl,.inr (SqT.of ep1),(Z.length:Int),by rw[lz],by lia,by lia,?_⟩
 rw[B2]
 refine cp (λi ys H'=>ay H1 H'/\ys=((bX Z i).map λt=>decide (t∈ts.map (·.2))).map V.bl) ⟨ay.refl _,rfl⟩ (small (by lia)) ?_ ?_
 ·rintro i ys H2 hi hy ⟨s2,rfl⟩ R1 R0 r1 r0
  have hi':i<Z.length:=by lia
  have ei:(0+(i:Int))=(i:Int):=by lia
  have ep2:=s2 _ _ ep1
  refine cG ⟨_,rfl,_,rfl,_,_,rfl,rfl,p,_,_,_,rfl,rfl,SqT.of ep2,by rw[ei];exact yj hi',?_⟩
  refine ⟨_,rfl,_,rfl,p,_,_,_,rfl,rfl,SqT.of ep2,(by rw[ei];exact bP (by rw[A4,AQ hi'];rfl)),(by show 2<=Ba;decide),λc hc =>?_⟩
  have gc:=ag hc (.tup [.int (if i=0 then Z.getD (Z.length-1) 0 else Z.getD (i-1) 0),.int Z[i]])
  have s12:=s1.trans (s2.trans gc)
  refine ⟨_,rfl,r,_,1,_,rfl,rfl,SqT.of (gc _ _ (s2 _ _ e1)),rfl,t,c,ts,[if i=0 then Z.getD (Z.length-1) 0 else Z.getD (i-1) 0,Z[i]],rfl,rfl,gc _ _ (s2 _ _ e2),(W.same s12).tup,ae,r1 _ _ ⟨s2.trans gc,?_⟩⟩
  rw[oH,A3,A3,show Z.getD i 0=Z[i] by rw[A6,AQ hi'];rfl];rfl
 ·rintro ys H3 hy ⟨s3,rfl⟩ l2 hl2
  refine ⟨l2,_,rfl,SqL.of ae,q _ _ (s1.trans (s3.trans (ag hl2 _))) ?_⟩
  rw[Ie,CD]
  constructor
  ·intro h
   exact ⟨ne,nd,λt ht=>of_decide_eq_true (h t ht)⟩
  ·intro h t ht
   exact decide_eq_true (h.2.2 t ht)
end
open PySem L2
def rot (ns:List Int)(k:Nat):List Int:=ns.drop k++ns.take k
abbrev yL:Sp:=λvs H Q _=>∃(p:Addr) (ns:List Int),vs=[.ref p]/\H p=some (.tup (ns.map V.int))/\ns≠[]/\ns.length<=500/\∀(z:Addr) (H':Hp) (M:Int),ay H H'->M∈ns->(∀b∈ns,M<=b)->H' z=some (.tup ((rot ns (ns.idxOf M)).map V.int))->Q (.ref z) H'
@[irreducible] def yk:Sp:=yL
theorem lR {vs:List V}{H:Hp}{Q:VK}{E:XK}:yk vs H Q E↔yL vs H Q E:=by
 delta yk
 exact CW
section
variable  {P:Bi}{w:BQ}{K:A0}{mg:Str->Option AS}{base:Heap}{f T:Addr}{fd:Cd}
theorem jY:aH ["places", "at"] ["places"] (ak ib):=⟨rfl,rfl,rfl,by decide +kernel,rfl,by decide +kernel,by decide +kernel⟩
theorem qg (F:Fun K "round_form" "round_form" ib f fd)(B:Blt mg):bB P w K mg base CX0 1 f fd ["places"] yk:=by
 refine F.ok jY (λvs H Q E h =>?_) (λcdv A outer s H vs Q E hr h =>?_)
 ·obtain ⟨_,_,rfl,_⟩:=lR.mp h
  rfl
 obtain ⟨p,ns,rfl,ep,ne,l5,q⟩:=lR.mp h
 refine ⟨_,(@af _ _ _ _ _ (@au _ _ 1 _ _ _ _ jY.nd rfl (Or.inl rfl) (kX C2 Du eC (pv 0) (@aa _ _ _ _ _ (az (qX rfl) rfl B.b_min oy (@aa _ _ _ _ _ (pv 0) ab rfl)) ab rfl)) rfl (by first | exact .inl rfl | exact .inr rfl | assumption))
  (@ai _ _ _ (@aD _ _ _ _ (@aL _ _ _ _ _ _ _ _ cc (aG aM rfl B.b_tuple aX (@aa _ _ _ _ _ (ba bQ (pv 0) (bq (pv 1)) bU) ab rfl)) (aG aM rfl B.b_tuple aX (@aa _ _ _ _ _ (ba bQ (pv 0) bU (bq (pv 1))) ab rfl)))))),?_⟩
 have lm:(ns.map V.int).length=ns.length:=AN _
 refine ⟨_,rfl,⟨p,_,rfl,ep⟩,_,rfl,p,ns,rfl,SqT.of ep,ne,λM hM mn=>⟨p,ns,M,rfl,rfl,ep,hM,?_⟩⟩
 have hk:ns.idxOf M<=ns.length:=CK (D1.mpr hM)
 have q:=λz H'=>q z H' M
 unfold rot at q
 generalize ns.idxOf M=k at hk q
 refine ⟨_,rfl,_,rfl,_,rfl,p,_,rfl,ep,λp1 H1 s1 e1=>⟨p1,_,rfl,.inr ⟨SqT.of e1,?_⟩⟩⟩
 rw[zZ _ (by rw[lm];exact hk), <- Hy] at e1
 refine ⟨_,rfl,_,rfl,_,rfl,p,_,rfl,s1 _ _ ep,λp2 H2 s2 e2=>⟨p2,_,rfl,.inr ⟨SqT.of e2,?_⟩⟩⟩
 rw[wH _ (by rw[lm];exact hk), <- Gh] at e2
 refine ⟨p1,p2,_,_,rfl,rfl,s2 _ _ e1,e2,by rw[AN,AN,Co,B4];exact small (by lia),λp3 H3 s3 e3 =>?_⟩
 rw[<- A3] at e3
 exact q p3 H3 (s1.trans (s2.trans s3)) hM mn e3
end
def oI (ns:List (List Int))(a b:Int):Prop:=a≠b/\[b,a]∉ns/\∀k,¬ Wk (stp ns a b) a k b
def Al (ns:List (List Int))(a b:Int)(Z:List Int):Prop:=(a=b/\Z=[a])\/(a≠b/\[b,a]∈ns/\Z=[a,b])\/(a≠b/\[b,a]∉ns/\∃N,Way ns a b N Z)
def AlD (nb:Int->List Int)(ns:List (List Int))(a b:Int)(Z:List Int):Prop:=(a=b/\Z=[a])\/(a≠b/\[b,a]∈ns/\Z=[a,b])\/(a≠b/\[b,a]∉ns/\wD nb a b Z)
theorem AlD.uniq {nb:Int->List Int}{ns:List (List Int)}{a b:Int}{Z Z':List Int}(h:AlD nb ns a b Z)(h':AlD nb ns a b Z'):Z=Z':=by
 rcases h with ⟨e,rfl⟩ | ⟨n,c,rfl⟩ | ⟨n,c,w⟩ <;> rcases h' with ⟨e',rfl⟩ | ⟨n',c',rfl⟩ | ⟨n',c',w'⟩
 ·rfl
 ·exact absurd e n'
 ·exact absurd e n'
 ·exact absurd e' n
 ·rfl
 ·exact absurd c c'
 ·exact absurd e' n
 ·exact absurd c' c
 ·exact w.uniq w'
theorem hV {H:Hp}{r:Addr}{m:Nat}{ts:List (Addr×List Int)}(W:Ow H r (m:Int) ts):Ok m (ts.map (·.2)):=λp hp=>by
 obtain ⟨u,hu,rfl⟩:=Bh.mp hp
 exact W.rng u hu
abbrev yM:Sp:=λvs H Q _=>∃(r n t:Addr) (m:Nat) (ts os:List (Addr×List Int)) (a b:Int),vs=[.ref r,.ref n,.ref t]/\Ow H r (m:Int) ts/\fB H n m (ts.map (·.2)) os/\m<=400/\H t=some (.tup [.int a,.int b])/\[a,b]∈ts.map (·.2)/\(∀H',ay H H'->oI (ts.map (·.2)) a b->Q .non H')/\∀(z:Addr) (H':Hp) (Z:List Int),ay H H'->H' z=some (.tup (Z.map V.int))->Al (ts.map (·.2)) a b Z->AlD (j6 (os.map (·.2))) (ts.map (·.2)) a b Z->Q (.ref z) H'
@[irreducible] def ym:Sp:=yM
theorem lT {vs:List V}{H:Hp}{Q:VK}{E:XK}:ym vs H Q E↔yM vs H Q E:=by
 delta ym
 exact CW
section
variable  {P:Bi}{w:BQ}{K:A0}{mg:Str->Option AS}{base:Heap}{f T:Addr}{fd:Cd}
theorem oJ:aH ["web", "ahead", "arrow"] ["web", "ahead", "arrow"] (ak f6):=⟨rfl,rfl,rfl,by decide +kernel,rfl,by decide +kernel,by decide +kernel⟩
theorem oK (F:Fun K "round_along" "round_along" f6 f fd)(B:Blt mg)(cWayAbout:Cal P w K mg base 1 "way_about" ["near", "start", "goal"] sW):bB P w K mg base CX0 2 f fd ["web", "ahead", "arrow"] ym:=by
 refine F.ok oJ (λvs H Q E h =>?_) (λcdv A outer s H vs Q E hr h =>?_)
 ·obtain ⟨_,_,_,_,_,_,_,_,rfl,_⟩:=lT.mp h
  rfl
 obtain ⟨r,n,t,m,ts,os,a,b,rfl,W,N,m4,et,hp,q0,q1⟩:=lT.mp h
 refine ⟨_,(@af _ _ _ _ _ (@a6 _ _ _ _ _ _ _ _ (av cy (@aA _ _ _ _ _ _ _ aB (pv 2) ah (λ_ _=>rfl)) (@aA _ _ _ _ _ _ _ aB (pv 2) ah (λ_ _=>rfl)) (aE _)) (@ai _ _ _ (@aD _ _ _ _ (@a9 _ _ _ _ _ (@aa _ _ _ _ _ (@aA _ _ _ _ _ _ _ aB (pv 2) ah (λ_ _=>rfl)) ab rfl)))) aK)
  (@af _ _ _ _ _ (@a6 _ _ _ _ _ _ _ _ (av (su (hu8 hr)) (@a9 _ _ _ _ _ (@aa _ _ _ _ _ (@aA _ _ _ _ _ _ _ aB (pv 2) ah (λ_ _=>rfl)) (@aa _ _ _ _ _ (@aA _ _ _ _ _ _ _ aB (pv 2) ah (λ_ _=>rfl)) ab rfl) rfl)) (@aA _ _ _ _ _ _ _ aB (pv 0) ah (λ_ _=>rfl)) rfl) (@ai _ _ _ (@aD _ _ _ _ (pv 2))) aK)
  (@ai _ _ _ (@aD _ _ _ _ (ax cWayAbout hr (by decide) rfl (@aa _ _ _ _ _ (pv 1) (@aa _ _ _ _ _ (@aA _ _ _ _ _ _ _ aB (pv 2) ah (λ_ _=>rfl)) (@aa _ _ _ _ _ (@aA _ _ _ _ _ _ _ aB (pv 2) ah (λ_ _=>rfl)) ab rfl) rfl) rfl)))))),?_⟩
 have O:=hV W
 obtain ⟨_,_,e,a0,am,b0,bm⟩:=O _ hp
 cases e
 obtain ⟨w,e1,e2⟩:=W.at'
 refine ⟨_,rfl,t,_,0,_,rfl,rfl,SqT.of et,rfl,_,rfl,t,_,1,_,rfl,rfl,SqT.of et,rfl,rfl,_,rfl,bV (λz =>?_) λz =>?_⟩
 ·have eq:a=b:=by simpa using z
  exact ⟨_,rfl,t,_,0,_,rfl,rfl,SqT.of et,rfl,(by show 1<=Ba;decide),λz hz=>q1 z _ [a] (ag hz _) ae (.inl ⟨eq,rfl⟩) (.inl ⟨eq,rfl⟩)⟩
 have ne:a≠b:=by simpa using z
 refine ⟨_,rfl,t,_,1,_,rfl,rfl,SqT.of et,rfl,_,rfl,t,_,0,_,rfl,rfl,SqT.of et,rfl,(by show 2<=Ba;decide),λc hc =>?_⟩
 have s1:=ag hc (.tup [.int b,.int a])
 have ec:upd H c (.tup [.int b,.int a]) c=some (.tup ([b,a].map V.int)):=ae
 generalize upd H c (.tup [.int b,.int a])=H1 at s1 ec
 refine ⟨_,rfl,r,_,1,_,rfl,rfl,SqT.of (s1 _ _ e1),rfl,w,c,ts,[b,a],rfl,rfl,s1 _ _ e2,λu hu=>s1 _ _ (W.tup u hu),ec,_,rfl,bV (λz =>?_) λz =>?_⟩
 ·have c2:=of_decide_eq_true z
  exact ⟨_,rfl,q1 t H1 [a,b] s1 (s1 _ _ et) (.inr (.inl ⟨ne,c2,rfl⟩)) (.inr (.inl ⟨ne,c2,rfl⟩))⟩
 have c2:[b,a]∉ts.map (·.2):=λy=>z (decide_eq_true y)
 exact ⟨_,rfl,_,rfl,t,_,0,_,rfl,rfl,SqT.of (s1 _ _ et),rfl,_,rfl,t,_,1,_,rfl,rfl,SqT.of (s1 _ _ et),rfl,jH.mpr ⟨n,m,_,os,a,b,rfl,N.same s1,O,m4,⟨a0,am⟩,ne,λH2 s2 no=>q0 H2 (s1.trans s2) ⟨ne,c2,no⟩,λz H2 NN Z s2 ez w wd=>q1 z H2 Z (s1.trans s2) ez (.inr (.inr ⟨ne,c2,NN,w⟩)) (.inr (.inr ⟨ne,c2,wd⟩))⟩⟩
end
def enc:Option (Addr×List Int)->V
 | none =>.non
 | some u =>.ref u.1
def keep (ws:List (Option (Addr×List Int))):List (Addr×List Int):=ws.filterMap id
def wK (l:List (List Int))(Z:List Int):Prop:=∃i:Nat,l[i]? = some Z/\(∀u∈l,Z.length<=u.length)/\∀(j:Nat) u,j<i->l[j]? = some u->Z.length<u.length
theorem wK.uniq {l:List (List Int)}{Z Z':List Int}(h:wK l Z)(h':wK l Z'):Z=Z':=by
 obtain ⟨i,e,mn,fi⟩:=h
 obtain ⟨i',e',mn',fi'⟩:=h'
 have h1:=mn Z' (A8 e')
 have h2:=mn' Z (A8 e)
 rcases Gd i i' with z | z | z
 ·have:=fi' i Z z e;lia
 ·subst z;rw[e] at e';exact BC e'
 ·have:=fi i' Z' z e';lia
theorem i6 {ws:List (Option (Addr×List Int))}{u:Addr×List Int}:u∈keep ws↔some u∈ws:=by
 unfold keep
 rw[EJ]
 exact ⟨λ⟨a,h,e⟩=>by rw[<- show a=some u from e];exact h,λh=>⟨some u,h,rfl⟩⟩
abbrev qh:Sp:=λvs H Q _=>∃(l:Addr) (ws:List (Option (Addr×List Int))),vs=[.ref l]/\H l=some (.lst (ws.map enc))/\(∀u,some u∈ws->H u.1=some (.tup (u.2.map V.int)))/\ws.length<=1000/\(∀H',ay H H'->(∀x∈ws,x=none)->Q .non H')/\∀(u:Addr×List Int) (H':Hp),ay H H'->some u∈ws->(∀v,some v∈ws->u.2.length<=v.2.length)->wK ((keep ws).map (·.2)) u.2->Q (.ref u.1) H'
@[irreducible] def ko:Sp:=qh
theorem gq {vs:List V}{H:Hp}{Q:VK}{E:XK}:ko vs H Q E↔qh vs H Q E:=by
 delta ko
 exact CW
section
variable  {P:Bi}{w:BQ}{K:A0}{mg:Str->Option AS}{base:Heap}{f T:Addr}{fd:Cd}
theorem oM:aH ["ways"] ["ways"] (ak fY):=⟨rfl,rfl,rfl,by decide +kernel,rfl,by decide +kernel,by decide +kernel⟩
theorem jL:(["way"]:List Str).Nodup:=by decide +kernel
theorem oN (F:Fun K "shortest_of" "shortest_of" fY f fd)(B:Blt mg):bB P w K mg base CX0 1 f fd ["ways"] ko:=by
 refine F.ok oM (λvs H Q E h =>?_) (λcdv A outer s H vs Q E hr h =>?_)
 ·obtain ⟨_,_,rfl,_⟩:=gq.mp h
  rfl
 obtain ⟨l,ws,rfl,el,tu,l9,q0,q1⟩:=gq.mp h
 refine ⟨_,(@ai _ _ _ (@aD _ _ _ _ (qY rfl rfl B.b_min rfl B.b_len oy (bF ["way"] [none] rfl (@dC _ _ _ _ (pv 0)) rfl (λ_ _ _ _ _=>(aJ (i:=0) jL rfl (Or.inl rfl))) (λ_ _ _ _ _=>(cN (av nU (pv 0) cW (aE _)))) (λ_ _ _ _ _=>(pv 0)))))),?_⟩
 refine ⟨_,rfl,l,rfl,⟨_,SqL.of el⟩,fe (xs:=ws.map enc) (λi ys H'=>H'=H/\ys=(keep (ws.take i)).map λu =>.ref u.1) ⟨rfl,rfl⟩ (by rw[AN];exact small l9) (λi ys H' _ z=>by rw[z.1];exact SqL.of el) ?_ ?_⟩
 ·rintro i x ys H3 hx hy ⟨eH,rfl⟩ R1 R0 r1 r0
  rw[A4] at hx
  cases z:ws[i]? with
  | none=>rw[z] at hx;cases hx
  | some o =>
   rw[z] at hx
   have hx:enc o=x:=BC hx
   subst hx
   cases o with
   | none =>
    refine ⟨_,rfl,rfl,_,rfl,bH (r0 _ ⟨eH,?_⟩)⟩
    unfold keep
    rw[BG,z,GW]
    show _=((ws.take i).filterMap id++[]).map _
    rw[B7]
   | some u =>
    refine ⟨_,rfl,rfl,_,rfl,cG ⟨_,rfl,r1 _ _ ⟨eH,?_⟩⟩⟩
    unfold keep
    rw[BG,z,GW,A3];rfl
 ·rintro ys H3 hy ⟨eH,rfl⟩ l2 hl2
  rw[eH] at hl2 ⊢
  rw[AN,Bb (AY _)]
  have g2:=ag hl2 (.lst ((keep ws).map λu =>.ref u.1))
  refine ⟨l2,keep ws,rfl,SqL.of ae,λt ht=>SqT.of (g2 _ _ (tu t (i6.mp ht))),λz=>q0 _ g2 λx hx =>?_,λi t et mn fi=>q1 t _ g2 (i6.mp (A8 et)) (λv hv=>mn v (i6.mpr hv)) ⟨i,by rw[A4,et];rfl,λu hu =>?_,λj u hj eu =>?_⟩⟩
  rotate_left
  ·obtain ⟨v,hv,rfl⟩:=Bh.mp hu
   exact mn v hv
  ·rw[A4] at eu
   obtain ⟨v,ev,rfl⟩:=GB.mp eu
   exact fi j v hj ev
  cases x with
  | none=>rfl
  | some u =>
   have:=i6.mpr hx
   rw[z] at this;cases this
end
open PySem L2
def lU (nb:Int->List Int)(E:List (List Int))(t:List Int):Option (List Int)->Prop
 | none=>∃a b:Int,t=[a,b]/\oI E a b
 | some Z=>∃a b:Int,t=[a,b]/\Al E a b Z/\AlD nb E a b Z
theorem Al.some {E:List (List Int)}{a b:Int}{Z:List Int}(h:Al E a b Z):¬ oI E a b:=λn=>by
 rcases h with ⟨e,_⟩ | ⟨_,c,_⟩ | ⟨_,_,N,w⟩
 ·exact n.1 e
 ·exact n.2.1 c
 ·exact n.2.2 _ (w.1.dst 0 b w.1.hd).2.1
theorem lU.uniq {nb:Int->List Int}{E:List (List Int)}{t:List Int}:∀{o o':Option (List Int)},lU nb E t o->lU nb E t o'->o=o'
 | none,none,_,_=>rfl
 | none,some _,⟨a,b,e,h⟩,⟨a',b',e',h',_⟩=>by
  rw[e] at e'
  cases e'
  exact absurd h h'.some
 | some _,none,⟨a,b,e,h,_⟩,⟨a',b',e',h'⟩=>by
  rw[e] at e'
  cases e'
  exact absurd h' h.some
 | some _,some _,⟨a,b,e,_,h⟩,⟨a',b',e',_,h'⟩=>by
  rw[e] at e'
  cases e'
  rw[h.uniq h']
def RBD (m:Nat)(E:List (List Int))(F:List Int):Prop:=∃S:List (List Int),S.Perm (E.map swp)/\S.Pairwise px/\∃(ws:List (Option (List Int))) (Z:List Int) (M:Int),ws.length=E.length/\(∀(k:Nat) t o,E[k]? = some t->ws[k]? = some o->lU (j6 ((Bw m).map λj:Nat=>outs S (j:Int))) E t o)/\wK (ws.filterMap id) Z/\M∈Z/\(∀v∈Z,M<=v)/\F=rot Z (Z.idxOf M)
theorem RBD.uniq {m:Nat}{E:List (List Int)}{F F':List Int}(h:RBD m E F)(h':RBD m E F'):F=F':=by
 obtain ⟨S,p,l,ws,Z,M,lw,tw,fm,hM,mM,rfl⟩:=h
 obtain ⟨S',p',l',ws',Z',M',lw',tw',fm',hM',mM',rfl⟩:=h'
 have es:=kQ (p'.trans p.symm) l' l
 subst es
 have ew:ws=ws':=by
  refine Eu (by lia) λi h1 h2 =>?_
  have hi:i<E.length:=by lia
  exact (tw i _ _ (AQ hi) (AQ h1)).uniq (tw' i _ _ (AQ hi) (AQ h2))
 subst ew
 have ez:=fm.uniq fm'
 subst ez
 have em:M=M':=by
  have:=mM M' hM'
  have:=mM' M hM
  lia
 rw[em]
abbrev yN:Sp:=λvs H Q _=>∃(r t:Addr) (m:Nat) (ts:List (Addr×List Int)),vs=[.ref r,.ref t]/\Ow H r (m:Int) ts/\H t=some (.tup (ts.map λu =>.ref u.1))/\m<=200/\ts.length<=250/\(∀H',ay H H'->(∀a b:Int,[a,b]∈ts.map (·.2)->oI (ts.map (·.2)) a b)->Q .non H')/\∀(z:Addr) (H':Hp) (F:List Int),ay H H'->H' z=some (.tup (F.map V.int))->(∃(a b:Int) (Z:List Int) (M:Int),[a,b]∈ts.map (·.2)/\Al (ts.map (·.2)) a b Z/\M∈Z/\(∀v∈Z,M<=v)/\F=rot Z (Z.idxOf M))->RBD m (ts.map (·.2)) F->Q (.ref z) H'
@[irreducible] def wL:Sp:=yN
theorem i7 {vs:List V}{H:Hp}{Q:VK}{E:XK}:wL vs H Q E↔yN vs H Q E:=by
 delta wL
 exact CW
section
variable  {P:Bi}{w:BQ}{K:A0}{mg:Str->Option AS}{base:Heap}{f T:Addr}{fd:Cd}
theorem jM:aH ["web", "arrows", "ahead", "least"] ["web", "arrows"] (ak lD):=⟨rfl,rfl,rfl,by decide +kernel,rfl,by decide +kernel,by decide +kernel⟩
theorem dA:(["arrow", "web", "ahead"]:List Str).Nodup:=by decide +kernel
theorem va (F:Fun K "round_by" "round_by" lD f fd)(B:Blt mg)(cInLists:Cal P w K mg base 2 "in_lists" ["web"] uS)(cShortestOf:Cal P w K mg base 1 "shortest_of" ["ways"] ko)(cRoundForm:Cal P w K mg base 1 "round_form" ["places"] yk)(cRoundAlong:Cal P w K mg base 2 "round_along" ["web", "ahead", "arrow"] ym):bB P w K mg base CX0 3 f fd ["web", "arrows"] wL:=by
 refine F.ok jM (λvs H Q E h =>?_) (λcdv A outer s H vs Q E hr h =>?_)
 ·obtain ⟨_,_,_,_,rfl,_⟩:=i7.mp h
  rfl
 obtain ⟨r,t,m,ts,rfl,W,et,m2,tl,q0,q⟩:=i7.mp h
 refine ⟨_,(@af _ _ _ _ _ (@au _ _ 2 _ _ _ _ jM.nd rfl (Or.inr rfl) (ax cInLists hr (by decide) rfl (@aa _ _ _ _ _ (pv 0) ab rfl)) rfl (by first | exact .inl rfl | exact .inr rfl | assumption))
  (@af _ _ _ _ _ (@au _ _ 3 _ _ _ _ jM.nd rfl (Or.inl rfl) (ax cShortestOf hr (by decide) rfl (@aa _ _ _ _ _ (bF ["arrow", "web", "ahead"] [none,some 0,some 2] rfl (@cX _ _ _ _ (pv 1)) rfl (λ_ _ _ _ _=>(aJ (i:=0) dA rfl (Or.inl rfl))) (λ_ _ _ _ _=>fR) (λ_ _ _ _ _=>(ax cRoundAlong hr (by decide) rfl (@aa _ _ _ _ _ (pv 1) (@aa _ _ _ _ _ (pv 2) (@aa _ _ _ _ _ (pv 0) ab rfl) rfl) rfl)))) ab rfl)) rfl (by first | exact .inl rfl | exact .inr rfl | assumption))
  (@af _ _ _ _ _ (@a6 _ _ _ _ _ _ _ _ (av nT (pv 3) cW (aE _)) (@ai _ _ _ (@aD _ _ _ _ cW)) aK)
  (@ai _ _ _ (@aD _ _ _ _ (ax cRoundForm hr (by decide) rfl (@aa _ _ _ _ _ (pv 3) ab rfl))))))),?_⟩
 have O:=hV W
 refine ⟨_,rfl,gk.mpr ⟨r,m,ts,rfl,W,m2,tl,λn H1 as vs s1 en la lv hv hc hS =>?_⟩⟩
 obtain ⟨S,pS,lS,eS⟩:=hS
 have NA:fB H1 n m (ts.map (·.2)) (as.zip vs):=by
  refine ⟨?_,by rw[EU];lia,λu hu =>?_,λj u e x =>?_⟩
  ·rw[show (as.zip vs).map (λu=>V.ref u.1)=as.map V.ref from ?_]
   ·exact en
   ·have:(as.zip vs).map Prod.fst=as:=Gu (by lia)
    exact (DD (f:=Prod.fst) (g:=V.ref) (l:=as.zip vs)).symm.trans (by rw[this])
  ·obtain ⟨j,e⟩:=Bj.mp hu
   obtain ⟨h1,h2⟩:=CI.mp e
   exact hv j _ _ h1 h2
  ·obtain ⟨h1,h2⟩:=CI.mp e
   have hj:j<m:=by have:=(AW.mp h1).1;lia
   rw[eS,A4,Ea hj] at h2
   rw[<- BC h2]
   have pr:∀t∈S,∃x y:Int,t=[x,y]:=λt ht=>by
    obtain ⟨t',_,e⟩:=Bh.mp (pS.mem_iff.mp ht)
    exact ⟨_,_,e.symm⟩
   show x∈outs S (j:Int)↔_
   rw[gh pr,cS O,pS.mem_iff,Bh]
   constructor
   ·rintro ⟨t',ht,e⟩
    obtain ⟨x',y',rfl,_⟩:=O t' ht
    have e:[y',x']=[(j:Int),x]:=e
    cases e
    exact ht
   ·intro h
    exact ⟨_,h,rfl⟩
 have ezv:(as.zip vs).map (·.2)=(Bw m).map λj:Nat=>outs S (j:Int):=by rw[<- eS];exact List.map_snd_zip (by lia)
 have et1:=s1 _ _ et
 let W0:Nat->List V->Hp->Prop:=λi ys H'=>ay H1 H'/\∃ws:List (Option (Addr×List Int)),ys=ws.map enc/\ws.length=i/\(∀u,some u∈ws->H' u.1=some (.tup (u.2.map V.int)))/\∀(k:Nat) t o,(ts.map (·.2))[k]? = some t->ws[k]? = some o->lU (j6 ((as.zip vs).map (·.2))) (ts.map (·.2)) t (o.map (·.2))
 refine ⟨_,rfl,t,rfl,⟨_,SqT.of et1⟩,gC (xs:=ts.map λu =>.ref u.1) W0 ⟨ay.refl _,[],rfl,rfl,λu hu=>(by cases hu),λk t o _ e=>by simp at e⟩ (by rw[AN];exact small (by lia)) (λi ys H' _ k=>SqT.of (k.1 _ _ et1)) ?_ ?_⟩
 ·rintro i x ys H2 hx hy ⟨s2,ws,rfl,lw,hw,tw⟩ R1 R0 r1 r0
  obtain ⟨u,hu,rfl⟩:=pX hx
  have mu:=A8 hu
  obtain ⟨a,b,e3,_⟩:=W.rng u mu
  have hu2:=(W.same (s1.trans s2)).tup u mu
  have hab:[a,b]∈ts.map (·.2):=Bh.mpr ⟨u,mu,e3⟩
  rw[e3] at hu2
  have snoc:∀o:Option (Addr×List Int),lU (j6 ((as.zip vs).map (·.2))) (ts.map (·.2)) u.2 (o.map (·.2))->∀(k:Nat) t o',(ts.map (·.2))[k]? = some t->(ws++[o])[k]? = some o'->lU (j6 ((as.zip vs).map (·.2))) (ts.map (·.2)) t (o'.map (·.2)):=λo ho k t o' e1 e2=>by
   by_cases c:k<ws.length
   ·rw[BK c] at e2
    exact tw k t o' e1 e2
   ·have:k=ws.length:=by
     have:=(AW.mp e2).1
     rw[AR] at this
     have:k<ws.length+1:=this
     lia
    subst this
    rw[BN (AY _),GP] at e2
    have:o=o':=BC e2
    subst this
    rw[lw,A4,hu] at e1
    have:u.2=t:=BC e1
    rw[<- this];exact ho
  refine cG ⟨_,rfl,_,rfl,_,rfl,lT.mpr ⟨r,n,u.1,m,ts,_,a,b,rfl,W.same (s1.trans s2),NA.same s2,by lia,hu2,hab,λH3 s3 no =>?_,λz H3 Z s3 ez al ad =>?_⟩⟩
  ·refine r1 _ _ ⟨s2.trans s3,ws++[none],by rw[A3];rfl,by rw[AR,lw];rfl,λv hv =>?_,snoc none ⟨a,b,e3,no⟩⟩
   rcases A7.mp hv with y | y
   ·exact s3 _ _ (hw v y)
   ·simp at y
  ·refine r1 _ _ ⟨s2.trans s3,ws++[some (z,Z)],by rw[A3];rfl,by rw[AR,lw];rfl,λv hv =>?_,snoc (some (z,Z)) ⟨a,b,e3,al,ad⟩⟩
   rcases A7.mp hv with y | y
   ·exact s3 _ _ (hw v y)
   ·have:v=(z,Z):=by simpa using y
    rw[this];exact ez
 rintro ys H2 hy ⟨s2,ws,rfl,lw,hw,tw⟩ lW hlw
 rw[AN] at lw
 have g3:=ag hlw (.lst (ws.map enc))
 have ew:upd H2 lW (.lst (ws.map enc)) lW=some (.lst (ws.map enc)):=ae
 generalize upd H2 lW (.lst (ws.map enc))=H3 at g3 ew
 have s13:=s1.trans (s2.trans g3)
 have le:(ts.map (·.2)).length=ws.length:=by rw[AN,lw]
 refine gq.mpr ⟨lW,ws,rfl,ew,λu hu=>g3 _ _ (hw u hu),by lia,λH4 s4 no =>?_,λu H4 s4 hu mn fm =>?_⟩
 ·refine ⟨_,rfl,rfl,_,rfl,cG ?_⟩
  refine q0 H4 (s13.trans s4) λa b hab =>?_
  obtain ⟨k,ek⟩:=Bj.mp hab
  have hk:=(AW.mp ek).1
  have eo:ws[k]? = some ws[k]:=AQ (by lia)
  have:=tw k _ _ ek eo
  rw[no ws[k] (Dh _)] at this
  obtain ⟨a',b',e,h⟩:=this
  cases e
  exact h
 ·obtain ⟨k,ek⟩:=Bj.mp hu
  have hk:=(AW.mp ek).1
  have et':(ts.map (·.2))[k]? = some (ts.map (·.2))[k]:=AQ (by lia)
  obtain ⟨a,b,e,al,ad⟩:=tw k _ _ et' ek
  have al:Al (ts.map (·.2)) a b u.2:=al
  have hab:[a,b]∈ts.map (·.2):=by rw[<- e];exact Dh _
  have neZ:u.2≠[]:=by
   rcases al with ⟨_,z⟩ | ⟨_,_,z⟩ | ⟨_,_,N,w⟩
   ·rw[z];simp
   ·rw[z];simp
   ·intro z;have:=w.2;rw[z] at this;cases this
  have lZ:u.2.length<=m:=by
   obtain ⟨_,_,e,a0,am,b0,bm⟩:=O _ hab
   cases e
   rcases al with ⟨_,z⟩ | ⟨ne,_,z⟩ | ⟨ne,_,N,w⟩
   ·rw[z];show 1<=m;lia
   ·rw[z];show 2<=m;lia
   ·exact bA w.1.inj (w.1.rng O ⟨a0,am⟩)
  refine ⟨_,rfl,rfl,_,rfl,bH ⟨_,rfl,lR.mpr ⟨u.1,u.2,rfl,s4 _ _ (g3 _ _ (hw u hu)),neZ,by lia,λz2 H5 M s5 hM mM e5 =>?_⟩⟩⟩
  refine q z2 H5 _ (s13.trans (s4.trans s5)) e5 ⟨a,b,u.2,M,hab,al,hM,mM,rfl⟩ ⟨S,pS,lS,ws.map λo=>o.map (·.2),u.2,M,by rw[AN];exact le.symm,λk t o e1 e2 =>?_,?_,hM,mM,rfl⟩
  ·rw[A4] at e2
   cases e3:ws[k]? with
   | none=>rw[e3] at e2;cases e2
   | some o' =>
    rw[e3] at e2
    have:o'.map (·.2)=o:=BC e2
    rw[<- this, <- ezv]
    exact tw k t o' e1 e3
  ·have:(ws.map λo=>o.map (·.2)).filterMap id=(keep ws).map (·.2):=by
    unfold keep
    rw[Hq,List.map_filterMap]
    rfl
   rw[this];exact fm
end
open PySem L2
theorem Gr.one {m:Nat}{E:List (List Int)}{G G':List Int}(h:Gr m E G)(s:Stk m E G)(h':Gr m E G')(s':Stk m E G'):G=G':=by
 have k:∀{A B:List Int},Gr m E A->Stk m E A->Gr m E B->¬ A.length<B.length:=λ{A B} ha sa hb lt=>by
  have e:=ha.is hb (CK lt)
  have:=(hb.2 A.length _ (AQ lt)).1
  rw[<- e] at this
  exact sa _ this
 have l:G.length=G'.length:=by
  have:=k h s h'
  have:=k h' s' h
  lia
 have:=h.is h' (by lia)
 rwa [l,Bb (AY _)] at this
theorem Gr.none {m:Nat}{F:List (List Int)}{G:List Int}(h:Gr m F G)(l:G.length=m){U:Int->Prop}(r:∀p,U p->0<=p/\p<m)(c:∀p,U p->∃q,U q/\[q,p]∈F):∀p,¬ U p:=by
 have k:∀(n i:Nat) (p:Int),i<n->G[i]? = some p->¬ U p:=by
  intro n
  induction n with
  | zero=>intro i p hi;lia
  | succ n ih =>
   intro i p hi e u
   obtain ⟨q,uq,hq⟩:=c p u
   have:=(h.2 i p e).1.fr q hq
   obtain ⟨j,ej⟩:=Bj.mp this
   have lj:=(AW.mp ej).1
   rw[B4] at lj
   rw[Ds (by lia)] at ej
   exact ih j q (by lia) ej uq
 intro p u
 obtain ⟨p0,p1⟩:=r p u
 obtain ⟨i,e⟩:=Bj.mp (h.full l p0 p1)
 exact k (i+1) i p (CZ _) e u
theorem rF {m:Nat}{F F':List (List Int)}{a b:Int}(O':Ok m F')(im:∀t∈F',t∈F\/t=[a,b]){G G':List Int}(g:Gr m F G)(l:G.length=m)(g':Gr m F' G')(s':Stk m F' G')(l':G'.length≠m):¬ oI F' a b:=by
 rintro ⟨ne,nb,nw⟩
 have cU:∀p:Int,((0<=p/\p<m)/\p∉G')->∃q:Int,((0<=q/\q<m)/\q∉G')/\[q,p]∈F':=λp hp=>by
  apply BA
  intro no
  refine s' p ⟨hp.1.1,hp.1.2,hp.2,λq hq=>BA λnq=>no ⟨q,⟨?_,nq⟩,hq⟩⟩
  obtain ⟨x,y,e,h1,h2,_⟩:=O' _ hq
  cases e
  exact ⟨h1,h2⟩
 obtain ⟨p,p0,p1,np⟩:=g'.zT l'
 by_cases ha:(0<=a/\a<m)/\a∉G'
 ·refine g.none l (U:=λp=>((0<=p/\p<m)/\p∉G')/\∃k,Wk (stp F' a b) a k p) (λp h=>h.1.1) (λp h =>?_) a ⟨ha,0,.z⟩
  obtain ⟨hp,k,w⟩:=h
  obtain ⟨q,hq,hf⟩:=cU p hp
  rcases im _ hf with z | z
  ·refine ⟨q,⟨hq,k+1,.st w ⟨(cS O').mpr hf,?_⟩⟩,z⟩
   by_cases c:p=a
   ·right
    intro e
    rw[e,c] at hf
    exact nb hf
   ·exact .inl c
  ·cases z
   exact absurd w (nw k)
 ·refine g.none l (U:=λp=>(0<=p/\p<m)/\p∉G') (λp h=>h.1) (λp hp =>?_) p ⟨⟨p0,p1⟩,np⟩
  obtain ⟨q,hq,hf⟩:=cU p hp
  rcases im _ hf with z | z
  ·exact ⟨q,hq,z⟩
  ·cases z
   exact absurd hq ha
theorem vb {m:Nat}{P:Int->Prop}(r:∀p,P p->0<=p){p:Int}(h:P p):∃q,P q/\∀x,P x->q<=x:=by
 have k:∀(n:Nat) (p:Int),P p->p<n->∃q,P q/\∀x,P x->q<=x:=by
  intro n
  induction n with
  | zero=>intro p hp hn;have:=r p hp;lia
  | succ n ih =>
   intro p hp hn
   by_cases c:∃x,P x/\x<p
   ·obtain ⟨x,hx,lx⟩:=c
    exact ih x hx (by lia)
   ·exact ⟨p,hp,λx hx=>BA λz=>c ⟨x,hx,by lia⟩⟩
 exact k (p.toNat+1) p h (by have:=r p h;lia)
theorem Gr.ex (m:Nat)(E:List (List Int)):∃G,Gr m E G/\Stk m E G:=by
 have k:∀(n:Nat) (G:List Int),Gr m E G->m-G.length<=n->∃G,Gr m E G/\Stk m E G:=by
  intro n
  induction n with
  | zero =>
   intro G g h
   refine ⟨G,g,λp hp =>?_⟩
   exact hp.nm (g.full (by have:=g.len;omega) hp.p0 hp.pm)
  | succ n ih =>
   intro G g h
   by_cases c:∃p,Nx m E G p
   ·obtain ⟨p,hp⟩:=c
    obtain ⟨q,hq,le⟩:=vb (m:=m) (P:=Nx m E G) (λp h=>h.p0) hp
    refine ih (G++[q]) (g.snoc hq le) ?_
    rw[AR]
    show m-(G.length+1)<=n
    omega
   ·exact ⟨G,g,λp hp=>c ⟨p,hp⟩⟩
 exact k m [] Gr.nil (by simp)
def Clr (m:Nat)(E:List (List Int)):Prop:=∃G,Gr m E G/\G.length=m
theorem i8 {m:Nat}{E:List (List Int)}{G:List Int}(g:Gr m E G)(s:Stk m E G):Clr m E↔G.length=m:=by
 constructor
 ·rintro ⟨G',g',l'⟩
  have s':Stk m E G':=λp hp=>hp.nm (g'.full l' hp.p0 hp.pm)
  rw[g.one s g' s'];exact l'
 ·exact λl=>⟨G,g,l⟩
def oth (N:List (Addr×List Int))(e:List Int):List (Addr×List Int):=N.filter λu => !decide (u.2=e)
theorem vd {m:Nat}{E:List (List Int)}{os:List Int}(O:Ok m E)(h:∀a b:Int,[a,b]∈E->os.idxOf a<os.idxOf b):Clr m E:=by
 obtain ⟨G,g,s⟩:=Gr.ex m E
 refine ⟨G,g,BA λn =>?_⟩
 obtain ⟨p,p0,p1,np⟩:=g.zT n
 have k:∀(j:Nat) (p:Int),0<=p->p<m->os.idxOf p<j->p∈G:=by
  intro j
  induction j with
  | zero=>intro p _ _ h;lia
  | succ j ih =>
   intro p p0 p1 hj
   refine BA λnp=>s p ⟨p0,p1,np,λq hq =>?_⟩
   obtain ⟨x,y,e,h1,h2,_⟩:=O _ hq
   cases e
   exact ih q h1 h2 (by have:=h _ _ hq;lia)
 exact np (k _ p p0 p1 (CZ _))
theorem ir (Z:List Int):(bX Z Z.length).map (·.getD 1 0)=Z:=by
 unfold bX
 rw[DD]
 refine Eu (by simp) λi h1 h2 =>?_
 rw[Iy,HE]
 show Z.getD i 0=_
 rw[A6,AQ h2];rfl
theorem bY {Z:List Int}{t:List Int}:t∈bX Z Z.length↔∃i,i<Z.length/\t=[Z.getD (if i=0 then Z.length-1 else i-1) 0,Z.getD i 0]:=by
 unfold bX
 rw[Bh]
 constructor
 ·rintro ⟨i,hi,rfl⟩
  refine ⟨i,Cg.mp hi,?_⟩
  split <;> rfl
 ·rintro ⟨i,hi,rfl⟩
  refine ⟨i,Cg.mpr hi,?_⟩
  split <;> rfl
theorem tE (Z:List Int){k:Nat}(h:k<=Z.length):(rot Z k).length=Z.length:=by
 unfold rot
 rw[AR,Co,B4];lia
theorem tF {Z:List Int}{k i:Nat}(h:k<Z.length)(hi:i<Z.length):(rot Z k).getD i 0=Z.getD (if i+k<Z.length then i+k else i+k-Z.length) 0:=by
 unfold rot
 rw[A6,A6]
 by_cases c:i+k<Z.length
 ·rw[if_pos c,BK (by rw[Co];lia),Dc,Nat.add_comm]
 ·rw[if_neg c,BN (by rw[Co];lia),Co,Ds (by lia)]
  congr 2
  lia
theorem ve {Z:List Int}{k:Nat}(h:k<Z.length){t:List Int}:t∈bX (rot Z k) (rot Z k).length↔t∈bX Z Z.length:=by
 have rl:=tE Z (CK h)
 rw[bY,bY,rl]
 have go:∀i,i<Z.length->∀j,j=(if i+k<Z.length then i+k else i+k-Z.length)->[(rot Z k).getD (if i=0 then Z.length-1 else i-1) 0,(rot Z k).getD i 0]=[Z.getD (if j=0 then Z.length-1 else j-1) 0,Z.getD j 0]:=λi hi j ej=>by
  rw[tF h hi,tF h (by split <;> lia), <- ej]
  congr 2
  subst ej
  (repeat' split) <;> lia
 constructor
 ·rintro ⟨i,hi,e⟩
  refine ⟨if i+k<Z.length then i+k else i+k-Z.length,by split <;> lia,?_⟩
  rw[e]
  exact go i hi _ rfl
 ·rintro ⟨j,hj,e⟩
  refine ⟨if k<=j then j-k else j+Z.length-k,by split <;> lia,?_⟩
  rw[e]
  refine (go _ (by split <;> lia) j ?_).symm
  (repeat' split) <;> lia
theorem yn (Z:List Int)(k:Nat):(rot Z k).Perm Z:=by
 unfold rot
 exact Dp.trans (by rw[C1])
theorem AK {m:Nat}{E:List (List Int)}(O:Ok m E){a b:Int}(hab:[a,b]∈E){Z:List Int}(al:Al E a b Z):Rd E Z/\[a,b]∈bX Z Z.length:=by
 rcases al with ⟨e,rfl⟩ | ⟨ne,hba,rfl⟩ | ⟨ne,hba,N,w⟩
 ·subst e
  refine ⟨⟨by simp,by simp,λt ht =>?_⟩,bY.mpr ⟨0,by simp,rfl⟩⟩
  obtain ⟨i,hi,rfl⟩:=bY.mp ht
  have:i=0:=by simpa using hi
  subst this
  exact hab
 ·refine ⟨⟨by simp,by simp[ne],λt ht =>?_⟩,bY.mpr ⟨1,by simp,rfl⟩⟩
  obtain ⟨i,hi,rfl⟩:=bY.mp ht
  have hi:i<2:=hi
  rcases (show i=0\/i=1 by lia) with rfl | rfl
  ·exact hba
  ·exact hab
 ·have l:=w.2
  have nz:Z≠[]:=λe=>by rw[e] at l;cases l
  have la:=w.last
  have hd:=w.1.hd
  have s0:[Z.getD (Z.length-1) 0,Z.getD 0 0]=[a,b]:=by
   rw[A6,A6,hd,show Z.length-1=N by lia,la];rfl
  refine ⟨⟨nz,w.1.inj,λt ht =>?_⟩,bY.mpr ⟨0,by lia,by rw[if_pos rfl];exact s0.symm⟩⟩
  obtain ⟨i,hi,rfl⟩:=bY.mp ht
  cases i with
  | zero=>rw[if_pos rfl,s0];exact hab
  | succ i =>
   rw[if_neg (by lia),show i+1-1=i by lia]
   have e1:Z[i]? = some Z[i]:=AQ (by lia)
   have e2:Z[i+1]? = some Z[i+1]:=AQ hi
   have:=w.1.ch i _ _ e1 e2
   rw[A6,A6,e1,e2]
   exact (cS O).mp this.1
theorem oI.mono {E E':List (List Int)}{m:Nat}(O:Ok m E)(O':Ok m E')(sub:∀t∈E',t∈E){a b:Int}(h:oI E a b):oI E' a b:=by
 refine ⟨h.1,λc=>h.2.1 (sub _ c),λk w=>h.2.2 k ?_⟩
 have go:∀{k:Nat} {v:Int},Wk (stp E' a b) a k v->Wk (stp E a b) a k v:=λ{k v} w=>by
  induction w with
  | z=>exact .z
  | st _ r ih=>exact .st ih ⟨(cS O).mpr (sub _ ((cS O').mp r.1)),r.2⟩
 exact go w
theorem iu {m:Nat}:∀{E:List (List Int)},Ok m E->Clr m E\/∃a b:Int,[a,b]∈E/\¬ oI E a b
 | [],_ =>.inl (vd (os:=[]) (λt ht=>by cases ht) λa b h=>by cases h)
 | t :: E,O=>by
  have OE:Ok m E:=λx hx=>O x (Br _ hx)
  rcases iu OE with c | ⟨a,b,h,n⟩
  ·by_cases c':Clr m (t :: E)
   ·exact .inl c'
   ·right
    obtain ⟨a,b,e,_⟩:=O t Be
    subst e
    obtain ⟨G,g,l⟩:=c
    obtain ⟨G',g',s'⟩:=Gr.ex m ([a,b] :: E)
    exact ⟨a,b,Be,rF O (λx hx=>(Bs.mp hx).symm) g l g' s' λz=>c' ⟨G',g',z⟩⟩
  ·exact .inr ⟨a,b,Br _ h,λz=>n (z.mono O OE λx hx=>Br _ hx)⟩
theorem tG {m:Nat}{E:List (List Int)}{Z:List Int}(O:Ok m E)(h:Rd E Z):¬ Clr m E:=by
 rintro ⟨G,g,l⟩
 have rng:∀v∈Z,0<=v/\v<m:=λv hv=>by
  rw[<- ir Z] at hv
  obtain ⟨t,ht,rfl⟩:=Bh.mp hv
  obtain ⟨a,b,e,_,_,h3,h4⟩:=O t (h.2.2 t ht)
  rw[e]
  exact ⟨h3,h4⟩
 have pos:=EA.mpr h.1
 refine g.none l (U:=(· ∈ Z)) rng (λp hp =>?_) Z[0] (Dh pos)
 obtain ⟨i,e⟩:=Bj.mp hp
 have hi:=(AW.mp e).1
 have hs:[Z.getD (if i=0 then Z.length-1 else i-1) 0,Z.getD i 0]∈bX Z Z.length:=bY.mpr ⟨i,hi,rfl⟩
 have e2:Z.getD i 0=p:=by rw[A6,e];rfl
 rw[e2] at hs
 refine ⟨_,?_,h.2.2 _ hs⟩
 have hj:(if i=0 then Z.length-1 else i-1)<Z.length:=by split <;> omega
 rw[A6,AQ hj]
 exact Dh hj
theorem tH {m:Nat}{E:List (List Int)}(O:Ok m E){F:List Int}(h:∃(a b:Int) (Z:List Int) (M:Int),[a,b]∈E/\Al E a b Z/\M∈Z/\(∀v∈Z,M<=v)/\F=rot Z (Z.idxOf M)):Rd E F:=by
 obtain ⟨a,b,Z,M,hab,al,hM,mM,rfl⟩:=h
 obtain ⟨rd,_⟩:=AK O hab al
 have hk:=D1.mpr hM
 exact ⟨(λe=>by have:=tE Z (CK hk);rw[e] at this;rw[<- this] at hk;cases hk),((yn Z _).nodup_iff).mpr rd.2.1,λt ht=>rd.2.2 t ((ve hk).mp ht)⟩
open PySem L2
def FW (H:Hp)(z:Addr)(m:Nat)(E:List (List Int)):Prop:=(∃(a:Addr) (G:List Int),H z=some (.tup [.str "ranks",.ref a])/\H a=some (.tup (G.map V.int))/\Gr m E G/\Stk m E G/\G.length=m)\/∃(a:Addr) (F:List Int),H z=some (.tup [.str "round",.ref a])/\H a=some (.tup (F.map V.int))/\Rd E F/\RBD m E F
abbrev yO:Sp:=λvs H Q _=>∃(r:Addr) (m:Nat) (ts:List (Addr×List Int)),vs=[.ref r]/\Ow H r (m:Int) ts/\m<=200/\ts.length<=250/\∀(z:Addr) (H':Hp),ay H H'->FW H' z m (ts.map (·.2))->Q (.ref z) H'
@[irreducible] def yo:Sp:=yO
theorem i9 {vs:List V}{H:Hp}{Q:VK}{E:XK}:yo vs H Q E↔yO vs H Q E:=by
 delta yo
 exact CW
section
variable  {P:Bi}{w:BQ}{K:A0}{mg:Str->Option AS}{base:Heap}{f T:Addr}{fd:Cd}
theorem jZ:aH ["web", "ranks"] ["web"] (ak ic):=⟨rfl,rfl,rfl,by decide +kernel,rfl,by decide +kernel,by decide +kernel⟩
theorem qi (F:Fun K "ranked_web" "ranked_web" ic f fd)(B:Blt mg)(cFirstRanks:Cal P w K mg base 3 "first_ranks" ["web"] wz)(cRoundBy:Cal P w K mg base 3 "round_by" ["web", "arrows"] wL):bB P w K mg base CX0 4 f fd ["web"] yo:=by
 refine F.ok jZ (λvs H Q E h =>?_) (λcdv A outer s H vs Q E hr h =>?_)
 ·obtain ⟨_,_,_,rfl,_⟩:=i9.mp h
  rfl
 obtain ⟨r,m,ts,rfl,W,m2,tl,q⟩:=i9.mp h
 refine ⟨_,(@af _ _ _ _ _ (@au _ _ 1 _ _ _ _ jZ.nd rfl (Or.inl rfl) (ax cFirstRanks hr (by decide) rfl (@aa _ _ _ _ _ (pv 0) ab rfl)) rfl (by first | exact .inl rfl | exact .inr rfl | assumption))
  (@af _ _ _ _ _ (@a6 _ _ _ _ _ _ _ _ (av cy (az aO rfl B.b_len cj (@aa _ _ _ _ _ (pv 1) ab rfl)) (@aA _ _ _ _ _ _ _ aB (pv 0) ah (λ_ _=>rfl)) (aE _)) (@ai _ _ _ (@aD _ _ _ _ (@a9 _ _ _ _ _ (@aa _ _ _ _ _ kB (@aa _ _ _ _ _ (aG aM rfl B.b_tuple aX (@aa _ _ _ _ _ (pv 1) ab rfl)) ab rfl) rfl)))) aK)
  (@ai _ _ _ (@aD _ _ _ _ (@a9 _ _ _ _ _ (@aa _ _ _ _ _ kB (@aa _ _ _ _ _ (ax cRoundBy hr (by decide) rfl (@aa _ _ _ _ _ (pv 0) (@aa _ _ _ _ _ (@aA _ _ _ _ _ _ _ aB (pv 0) ah (λ_ _=>rfl)) ab rfl) rfl)) ab rfl) rfl)))))),?_⟩
 have O:=hV W
 refine ⟨_,rfl,iZ.mpr ⟨r,m,ts,rfl,W,m2,tl,λl H1 G s1 hl el gr st =>?_⟩⟩
 obtain ⟨t,e1,e2⟩:=(W.same s1).at'
 refine ⟨_,rfl,l,_,rfl,.inl (SqL.of el),_,rfl,r,_,0,_,rfl,rfl,SqT.of e1,rfl,rfl,_,rfl,bV (λz =>?_) λz =>?_⟩
 ·have z:=V.int.inj (of_decide_eq_true z)
  rw[AN] at z
  refine ⟨_,rfl,l,_,rfl,.inl ⟨SqL.of el,λa ha=>⟨(by show 2<=Ba;decide),λb hb =>?_⟩⟩⟩
  exact q b _ (s1.trans ((ag ha _).trans (ag hb _))) (.inl ⟨a,G,ae,(ag hb _) _ _ ae,gr,st,by lia⟩)
 have nl:G.length≠m:=λe=>z (decide_eq_true (by rw[AN,e]))
 refine ⟨_,rfl,_,rfl,r,_,1,_,rfl,rfl,SqT.of e1,rfl,i7.mpr ⟨r,t,m,ts,rfl,W.same s1,e2,m2,tl,λH2 s2 no =>?_,λa H2 F s2 ea tr rb =>?_⟩⟩
 ·rcases iu O with c | ⟨a,b,h,n⟩
  ·exact absurd ((i8 gr st).mp c) nl
  ·exact absurd (no a b h) n
 ·refine ⟨(by show 2<=Ba;decide),λb hb =>?_⟩
  exact q b _ (s1.trans (s2.trans (ag hb _))) (.inr ⟨a,F,ae,(ag hb _) _ _ ea,tH O tr,rb⟩)
end
def InR (m:Nat)(E:List (List Int))(os:List Int):Prop:=os.Perm (rgI m)/\∀a b:Int,[a,b]∈E->os.idxOf a<os.idxOf b
theorem ja (m:Nat):(rgI m).Pairwise (· < ·):=by
 unfold rgI
 rw[BW]
 exact Eh.imp λ{a b} h=>by lia
abbrev wM:Sp:=λvs H Q _=>∃(r p:Addr) (m:Nat) (ts:List (Addr×List Int)) (os:List Int),vs=[.ref r,.ref p]/\Ow H r (m:Int) ts/\m<=200/\ts.length<=250/\H p=some (.tup (os.map V.int))/\os.length<=250/\∀(b:Bool) (H':Hp),ay H H'->(b=true↔InR m (ts.map (·.2)) os)->Q (.bl b) H'
@[irreducible] def tI:Sp:=wM
theorem jN {vs:List V}{H:Hp}{Q:VK}{E:XK}:tI vs H Q E↔wM vs H Q E:=by
 delta tI
 exact CW
section
variable  {P:Bi}{w:BQ}{K:A0}{mg:Str->Option AS}{base:Heap}{f T:Addr}{fd:Cd}
theorem oO:aH ["web", "order"] ["web", "order"] (ak f7):=⟨rfl,rfl,rfl,by decide +kernel,rfl,by decide +kernel,by decide +kernel⟩
theorem dS:(["arrow", "order"]:List Str).Nodup:=by decide +kernel
theorem oP (F:Fun K "ranks_right" "ranks_right" f7 f fd)(B:Blt mg):bB P w K mg base CX0 1 f fd ["web", "order"] tI:=by
 refine F.ok oO (λvs H Q E h =>?_) (λcdv A outer s H vs Q E hr h =>?_)
 ·obtain ⟨_,_,_,_,_,rfl,_⟩:=jN.mp h
  rfl
 obtain ⟨r,p,m,ts,os,rfl,W,m2,tl,ep,l5,q⟩:=jN.mp h
 refine ⟨_,(@af _ _ _ _ _ (@a6 _ _ _ _ _ _ _ _ (av (sI hr) (az iR rfl B.b_sorted cC (@aa _ _ _ _ _ (pv 1) ab rfl)) (aG (fv hr.hd) rfl B.b_list iX (@aa _ _ _ _ _ (aG cI rfl B.b_range gg (@aa _ _ _ _ _ (@aA _ _ _ _ _ _ _ aB (pv 0) ah (λ_ _=>rfl)) ab rfl)) ab rfl)) (aE _)) (@ai _ _ _ (@aD _ _ _ _ kA)) aK)
  (@ai _ _ _ (@aD _ _ _ _ (az (iI rfl) rfl B.b_all ox (@aa _ _ _ _ _ (bF ["arrow", "order"] [none,some 1] rfl (@cX _ _ _ _ (@aA _ _ _ _ _ _ _ aB (pv 0) ah (λ_ _=>rfl))) rfl (λ_ _ _ _ _=>(aJ (i:=0) dS rfl (Or.inl rfl))) (λ_ _ _ _ _=>fR) (λ_ _ _ _ _=>(cu kE (kX C2 Du eC (pv 1) (@aa _ _ _ _ _ (@aA _ _ _ _ _ _ _ (cQ (K:=K)) (pv 0) ah (λ_ _=>rfl)) ab rfl)) (kX C2 Du eC (pv 1) (@aa _ _ _ _ _ (@aA _ _ _ _ _ _ _ (cQ (K:=K)) (pv 0) ah (λ_ _=>rfl)) ab rfl)) (aE _)))) ab rfl))))),?_⟩
 refine ⟨_,rfl,p,os,rfl,.inr (SqT.of ep),λl1 out hl1 pm so =>?_⟩
 have g1:=ag hl1 (.lst (out.map V.int))
 have e1:upd H l1 (.lst (out.map V.int)) l1=some (.lst (out.map V.int)):=ae
 generalize upd H l1 (.lst (out.map V.int))=H1 at g1 e1
 obtain ⟨t,f1,f2⟩:=(W.same g1).at'
 refine ⟨_,rfl,r,_,0,_,rfl,rfl,SqT.of f1,rfl,(m:Int),rfl,λra hra=>⟨ra,m,rfl,ae,by lia,λlf hlf =>?_⟩⟩
 have g2:=(ag hra (.rng 0 m)).trans (ag hlf (.lst ((Bw m).map λi:Nat=>V.int (i:Int))))
 have elf:upd (upd H1 ra (.rng 0 m)) lf (.lst ((Bw m).map λi:Nat=>V.int (i:Int))) lf=some (.lst ((rgI m).map V.int)):=by rw[ae];unfold rgI;rw[DD];rfl
 generalize upd (upd H1 ra (.rng 0 m)) lf (.lst ((Bw m).map λi:Nat=>V.int (i:Int)))=H2 at g2 elf
 have s2:=g1.trans g2
 have hp:out=rgI m↔os.Perm (rgI m):=by
  constructor
  ·intro e;rw[<- e];exact pm.symm
  ·intro h
   exact (pm.trans h).eq_of_pairwise (λa b _ _ h1 h2=>GU h1 h2) so ((ja m).imp λ{a b} h=>Int.le_of_lt h)
 refine ⟨l1,lf,out,rgI m,rfl,rfl,SqL.of (g2 _ _ e1),SqL.of elf,_,rfl,bV (λz =>?_) λz =>?_⟩
 ·refine q false H2 s2 ⟨(λh=>by cases h),λh =>?_⟩
  rw[decide_eq_true (hp.mpr h.1)] at z
  cases z
 have per:os.Perm (rgI m):=by
  refine hp.mp (BA λn=>z ?_)
  rw[decide_eq_false n];rfl
 have mo:∀v:Int,0<=v->v<m->v∈os:=λv v0 v1=>per.mem_iff.mpr (bG.mpr ⟨v0,v1⟩)
 have ep2:=s2 _ _ ep
 have W2:=W.same s2
 have f12:=g2 _ _ f1
 have f22:=g2 _ _ f2
 let W0:Nat->List V->Hp->Prop:=λi ys H'=>H'=H2/\ys=((ts.take i).map λu=>decide (((os.idxOf (u.2.getD 0 0):Nat):Int)<((os.idxOf (u.2.getD 1 0):Nat):Int))).map V.bl
 refine ⟨_,rfl,r,_,1,_,rfl,rfl,SqT.of f12,rfl,t,rfl,⟨_,SqT.of f22⟩,gC (xs:=ts.map λu =>.ref u.1) W0 ⟨rfl,rfl⟩ (by rw[AN];exact small (by lia)) (λi ys H' _ k=>by rw[k.1];exact SqT.of f22) ?_ ?_⟩
 ·rintro i x ys H3 hx hy ⟨eH,rfl⟩ R1 R0 r1 r0
  obtain ⟨u,hu,rfl⟩:=pX hx
  have mu:=A8 hu
  obtain ⟨x,y,e3,x0,x1,y0,y1⟩:=W2.rng u mu
  have hu2:=W2.tup u mu
  rw[e3] at hu2
  rw[eH]
  refine cG ⟨_,rfl,⟨_,_,rfl,ep2⟩,_,rfl,u.1,_,0,_,rfl,rfl,SqT.of hu2,rfl,p,os,x,rfl,rfl,ep2,mo x x0 x1,?_⟩
  refine ⟨_,rfl,⟨_,_,rfl,ep2⟩,_,rfl,u.1,_,1,_,rfl,rfl,SqT.of hu2,rfl,p,os,y,rfl,rfl,ep2,mo y y0 y1,_,_,rfl,rfl,r1 _ _ ⟨rfl,?_⟩⟩
  rw[BG,hu,A3,A3]
  show _++[_]=_++[V.bl (decide (((os.idxOf (u.2.getD 0 0):Nat):Int)<((os.idxOf (u.2.getD 1 0):Nat):Int)))]
  rw[e3];rfl
 ·rintro ys H3 hy ⟨eH,rfl⟩ l hl
  rw[eH] at hl ⊢
  rw[AN,Bb (AY _)]
  refine ⟨l,_,rfl,SqL.of ae,q _ _ (s2.trans (ag hl _)) ?_⟩
  rw[Ie,CD]
  constructor
  ·intro h
   refine ⟨per,λa b hab =>?_⟩
   obtain ⟨u,hu,e⟩:=Bh.mp hab
   have:=of_decide_eq_true (h u hu)
   rw[e] at this
   have:((os.idxOf a:Nat):Int)<((os.idxOf b:Nat):Int):=this
   lia
  ·intro h u hu
   obtain ⟨x,y,e,_⟩:=W.rng u hu
   have:=h.2 x y (Bh.mpr ⟨u,hu,e⟩)
   refine decide_eq_true ?_
   rw[e]
   show ((os.idxOf x:Nat):Int)<((os.idxOf y:Nat):Int)
   lia
end
abbrev wN:Sp:=λvs H Q _=>∃(r p:Addr) (m:Nat) (ts:List (Addr×List Int)) (os:List Int),vs=[.ref r,.ref p]/\Ow H r (m:Int) ts/\m<=200/\ts.length<=250/\H p=some (.tup (os.map V.int))/\os.length<=250/\∀(b:Bool) (H':Hp),ay H H'->(b=true↔InR m (ts.map (·.2)) os)->Q (.bl b) H'
@[irreducible] def tJ:Sp:=wN
theorem jO {vs:List V}{H:Hp}{Q:VK}{E:XK}:tJ vs H Q E↔wN vs H Q E:=by
 delta tJ
 exact CW
section
variable  {P:Bi}{w:BQ}{K:A0}{mg:Str->Option AS}{base:Heap}{f T:Addr}{fd:Cd}
theorem rG:aH ["web", "order"] ["web", "order"] (ak jE):=⟨rfl,rfl,rfl,by decide +kernel,rfl,by decide +kernel,by decide +kernel⟩
theorem gs:(["a", "b", "order"]:List Str).Nodup:=by decide +kernel
theorem rH (F:Fun K "_law_in_ranks" "_law_in_ranks" jE f fd)(B:Blt mg):bB P w K mg base CX0 1 f fd ["web", "order"] tJ:=by
 refine F.ok rG (λvs H Q E h =>?_) (λcdv A outer s H vs Q E hr h =>?_)
 ·obtain ⟨_,_,_,_,_,rfl,_⟩:=jO.mp h
  rfl
 obtain ⟨r,p,m,ts,os,rfl,W,m2,tl,ep,l5,q⟩:=jO.mp h
 refine ⟨_,(@af _ _ _ _ _ (@a6 _ _ _ _ _ _ _ _ (av (sI hr) (az iR rfl B.b_sorted cC (@aa _ _ _ _ _ (pv 1) ab rfl)) (aG (fv hr.hd) rfl B.b_list iX (@aa _ _ _ _ _ (aG cI rfl B.b_range gg (@aa _ _ _ _ _ (@aA _ _ _ _ _ _ _ aB (pv 0) ah (λ_ _=>rfl)) ab rfl)) ab rfl)) (aE _)) (@ai _ _ _ (@aD _ _ _ _ kA)) aK)
  (@ai _ _ _ (@aD _ _ _ _ (az (iI rfl) rfl B.b_all ox (@aa _ _ _ _ _ (bF ["a", "b", "order"] [none,none,some 1] rfl (@cX _ _ _ _ (@aA _ _ _ _ _ _ _ aB (pv 0) ah (λ_ _=>rfl))) rfl (λ_ _ _ _ _=>(d9 (K:=K) (i:=0) (j:=1) gs rfl rfl (Or.inl rfl) (Or.inl rfl))) (λ_ _ _ _ _=>fR) (λ_ _ _ _ _=>(cu kE (kX C2 Du eC (pv 2) (@aa _ _ _ _ _ (pv 0) ab rfl)) (kX C2 Du eC (pv 2) (@aa _ _ _ _ _ (pv 1) ab rfl)) (aE _)))) ab rfl))))),?_⟩
 refine ⟨_,rfl,p,os,rfl,.inr (SqT.of ep),λl1 out hl1 pm so =>?_⟩
 have g1:=ag hl1 (.lst (out.map V.int))
 have e1:upd H l1 (.lst (out.map V.int)) l1=some (.lst (out.map V.int)):=ae
 generalize upd H l1 (.lst (out.map V.int))=H1 at g1 e1
 obtain ⟨t,f1,f2⟩:=(W.same g1).at'
 refine ⟨_,rfl,r,_,0,_,rfl,rfl,SqT.of f1,rfl,(m:Int),rfl,λra hra=>⟨ra,m,rfl,ae,by lia,λlf hlf =>?_⟩⟩
 have g2:=(ag hra (.rng 0 m)).trans (ag hlf (.lst ((Bw m).map λi:Nat=>V.int (i:Int))))
 have elf:upd (upd H1 ra (.rng 0 m)) lf (.lst ((Bw m).map λi:Nat=>V.int (i:Int))) lf=some (.lst ((rgI m).map V.int)):=by rw[ae];unfold rgI;rw[DD];rfl
 generalize upd (upd H1 ra (.rng 0 m)) lf (.lst ((Bw m).map λi:Nat=>V.int (i:Int)))=H2 at g2 elf
 have s2:=g1.trans g2
 have hp:out=rgI m↔os.Perm (rgI m):=by
  constructor
  ·intro e;rw[<- e];exact pm.symm
  ·intro h
   exact (pm.trans h).eq_of_pairwise (λa b _ _ h1 h2=>GU h1 h2) so ((ja m).imp λ{a b} h=>Int.le_of_lt h)
 refine ⟨l1,lf,out,rgI m,rfl,rfl,SqL.of (g2 _ _ e1),SqL.of elf,_,rfl,bV (λz =>?_) λz =>?_⟩
 ·refine q false H2 s2 ⟨(λh=>by cases h),λh =>?_⟩
  rw[decide_eq_true (hp.mpr h.1)] at z
  cases z
 have per:os.Perm (rgI m):=by
  refine hp.mp (BA λn=>z ?_)
  rw[decide_eq_false n];rfl
 have mo:∀v:Int,0<=v->v<m->v∈os:=λv v0 v1=>per.mem_iff.mpr (bG.mpr ⟨v0,v1⟩)
 have ep2:=s2 _ _ ep
 have W2:=W.same s2
 have f12:=g2 _ _ f1
 have f22:=g2 _ _ f2
 refine ⟨_,rfl,r,_,1,_,rfl,rfl,SqT.of f12,rfl,t,rfl,⟨_,SqT.of f22⟩,cT (ts:=ts.map λu:Addr×List Int=>(u.1,V.int (u.2.getD 0 0),V.int (u.2.getD 1 0))) (λi ys H'=>H'=H2/\ys=((ts.take i).map λu=>decide (((os.idxOf (u.2.getD 0 0):Nat):Int)<((os.idxOf (u.2.getD 1 0):Nat):Int))).map V.bl) (by decide) ⟨rfl,rfl⟩ (by rw[AN];exact CK (small (by lia))) (λi ys H' _ k=>by rw[k.1];exact gO W2 f22) ?_ ?_⟩
 ·rintro i v ys H3 hv hy ⟨eH,rfl⟩ R1 R0 r1 r0
  obtain ⟨u,hu,rfl⟩:=gN hv
  obtain ⟨x,y,e3,x0,x1,y0,y1⟩:=W2.rng u (A8 hu)
  have g0:u.2.getD 0 0=x:=by rw[e3];rfl
  have g1:u.2.getD 1 0=y:=by rw[e3];rfl
  rw[eH,g0,g1]
  refine cG ⟨_,rfl,⟨_,_,rfl,ep2⟩,_,rfl,p,os,x,rfl,rfl,ep2,mo x x0 x1,?_⟩
  refine ⟨_,rfl,⟨_,_,rfl,ep2⟩,_,rfl,p,os,y,rfl,rfl,ep2,mo y y0 y1,_,_,rfl,rfl,r1 _ _ ⟨rfl,?_⟩⟩
  rw[BG,hu,A3,A3]
  show _++[_]=_++[V.bl (decide (((os.idxOf (u.2.getD 0 0):Nat):Int)<((os.idxOf (u.2.getD 1 0):Nat):Int)))]
  rw[g0,g1]
 ·rintro ys H3 hy ⟨eH,rfl⟩ l hl
  rw[eH] at hl ⊢
  rw[AN,Bb (AY _)]
  refine ⟨l,_,rfl,SqL.of ae,q _ _ (s2.trans (ag hl _)) ?_⟩
  rw[Ie,CD]
  constructor
  ·intro h
   refine ⟨per,λa b hab =>?_⟩
   obtain ⟨u,hu,e⟩:=Bh.mp hab
   have:=of_decide_eq_true (h u hu)
   rw[e] at this
   have:((os.idxOf a:Nat):Int)<((os.idxOf b:Nat):Int):=this
   lia
  ·intro h u hu
   obtain ⟨x,y,e,_⟩:=W.rng u hu
   have:=h.2 x y (Bh.mpr ⟨u,hu,e⟩)
   refine decide_eq_true ?_
   rw[e]
   show ((os.idxOf x:Nat):Int)<((os.idxOf y:Nat):Int)
   lia
end
abbrev yP:Sp:=λvs H Q _=>∃(r q:Addr) (m:Nat) (ts:List (Addr×List Int)) (P:List Int),vs=[.ref r,.ref q]/\Ow H r (m:Int) ts/\m<=200/\ts.length<=250/\H q=some (.tup (P.map V.int))/\∀(b:Bool) (H':Hp),ay H H'->(b=true↔Clr m ((ts.map (·.2)).filter (gm P)))->Q (.bl b) H'
@[irreducible] def yp:Sp:=yP
theorem lV {vs:List V}{H:Hp}{Q:VK}{E:XK}:yp vs H Q E↔yP vs H Q E:=by
 delta yp
 exact CW
section
variable  {P:Bi}{w:BQ}{K:A0}{mg:Str->Option AS}{base:Heap}{f T:Addr}{fd:Cd}
theorem lX:aH ["web", "places"] ["web", "places"] (ak dO):=⟨rfl,rfl,rfl,by decide +kernel,rfl,by decide +kernel,by decide +kernel⟩
theorem lY (F:Fun K "clears_oneway" "clears_oneway" dO f fd)(B:Blt mg)(cHasRanks:Cal P w K mg base 4 "has_ranks" ["web"] yd)(cCutOneway:Cal P w K mg base 1 "cut_oneway" ["web", "places"] lN):bB P w K mg base CX0 5 f fd ["web", "places"] yp:=by
 refine F.ok lX (λvs H Q E h =>?_) (λcdv A outer s H vs Q E hr h =>?_)
 ·obtain ⟨_,_,_,_,_,rfl,_⟩:=lV.mp h
  rfl
 obtain ⟨r,q,m,ts,P,rfl,W,m2,tl,eq,k⟩:=lV.mp h
 refine ⟨_,(@ai _ _ _ (@aD _ _ _ _ (ax cHasRanks hr (by decide) rfl (@aa _ _ _ _ _ (ax cCutOneway hr (by decide) rfl (@aa _ _ _ _ _ (pv 0) (@aa _ _ _ _ _ (pv 1) ab rfl) rfl)) ab rfl)))),?_⟩
 refine ⟨_,rfl,_,rfl,fC.mpr ⟨r,q,m,ts,P,rfl,W,tl,eq,λb us H1 s1 W1 eu =>?_⟩⟩
 have lu:us.length<=ts.length:=by have:=congrArg List.length eu;rw[AN] at this;rw[this];exact BL (DP _ _) (by rw[AN];exact AY _)
 refine lK.mpr ⟨b,m,us,rfl,W1,m2,by lia,λH2 G s2 gr st=>k _ H2 (s1.trans s2) ?_⟩
 rw[decide_eq_true_iff, <- eu,i8 gr st]
end
abbrev yQ:Sp:=λvs H Q _=>∃(r q:Addr) (m:Nat) (ts:List (Addr×List Int)) (P:List Int),vs=[.ref r,.ref q]/\Ow H r (m:Int) ts/\m<=200/\ts.length<=250/\H q=some (.tup (P.map V.int))/\(∀H',ay H H'->Clr m ((ts.map (·.2)).filter (gm P))->Q .non H')/\∀(z:Addr) (H':Hp) (F:List Int),ay H H'->H' z=some (.tup (F.map V.int))->Rd ((ts.map (·.2)).filter (gm P)) F->¬ Clr m ((ts.map (·.2)).filter (gm P))->Q (.ref z) H'
@[irreducible] def yq:Sp:=yQ
theorem l6 {vs:List V}{H:Hp}{Q:VK}{E:XK}:yq vs H Q E↔yQ vs H Q E:=by
 delta yq
 exact CW
section
variable  {P:Bi}{w:BQ}{K:A0}{mg:Str->Option AS}{base:Heap}{f T:Addr}{fd:Cd}
theorem l7:aH ["web", "places", "rest"] ["web", "places"] (ak jC):=⟨rfl,rfl,rfl,by decide +kernel,rfl,by decide +kernel,by decide +kernel⟩
theorem rJ (F:Fun K "round_off" "round_off" jC f fd)(B:Blt mg)(cCutOneway:Cal P w K mg base 1 "cut_oneway" ["web", "places"] lN)(cRoundBy:Cal P w K mg base 3 "round_by" ["web", "arrows"] wL):bB P w K mg base CX0 4 f fd ["web", "places"] yq:=by
 refine F.ok l7 (λvs H Q E h =>?_) (λcdv A outer s H vs Q E hr h =>?_)
 ·obtain ⟨_,_,_,_,_,rfl,_⟩:=l6.mp h
  rfl
 obtain ⟨r,q,m,ts,P,rfl,W,m2,tl,eq,k1,k2⟩:=l6.mp h
 refine ⟨_,(@af _ _ _ _ _ (@au _ _ 2 _ _ _ _ l7.nd rfl (Or.inl rfl) (ax cCutOneway hr (by decide) rfl (@aa _ _ _ _ _ (pv 0) (@aa _ _ _ _ _ (pv 1) ab rfl) rfl)) rfl (by first | exact .inl rfl | exact .inr rfl | assumption))
  (@ai _ _ _ (@aD _ _ _ _ (ax cRoundBy hr (by decide) rfl (@aa _ _ _ _ _ (pv 2) (@aa _ _ _ _ _ (@aA _ _ _ _ _ _ _ aB (pv 2) ah (λ_ _=>rfl)) ab rfl) rfl))))),?_⟩
 refine ⟨_,rfl,_,rfl,fC.mpr ⟨r,q,m,ts,P,rfl,W,tl,eq,λb us H1 s1 W1 eu =>?_⟩⟩
 have lu:us.length<=ts.length:=by have:=congrArg List.length eu;rw[AN] at this;rw[this];exact BL (DP _ _) (by rw[AN];exact AY _)
 have O:=hV W1
 obtain ⟨t,e1,e2⟩:=W1.at'
 refine ⟨_,rfl,_,rfl,b,_,1,_,rfl,rfl,SqT.of e1,rfl,i7.mpr ⟨b,t,m,us,rfl,W1,e2,m2,by lia,λH2 s2 no =>?_,λz H2 F s2 ez tr rb =>?_⟩⟩
 ·refine k1 H2 (s1.trans s2) ?_
  rw[<- eu]
  rcases iu O with c | ⟨a,b,h,n⟩
  ·exact c
  ·exact absurd (no a b h) n
 ·have rd:=tH O tr
  have nc:=tG O rd
  rw[eu] at rd nc
  exact k2 z H2 F (s1.trans s2) ez rd nc
end
open PySem L2
theorem jb {K:A0}{H:Hp}{n:Nat}:∀ns:List Int,Paired (EqS K H (n+1)) (ns.map V.int) (ns.map V.int)
 | [] =>.nil
 | a :: t =>.cons (.inl ⟨a,rfl,rfl⟩) (jb t)
theorem tK {P:List Int}{x:Int}:(if false=true then !inV (.int x) (P.map V.int) else inV (.int x) (P.map V.int))=decide (x∈P):=by
 rw[if_neg Bf,i4]
abbrev wO:Sp:=λvs H Q _=>∃(r:Addr) (m:Nat) (ts:List (Addr×List Int)),vs=[.ref r]/\Ow H r (m:Int) ts/\m<=40/\ts.length<=250/\(∀(H':Hp) (G:List Int),ay H H'->Gr m (ts.map (·.2)) G->Stk m (ts.map (·.2)) G->G.length≠m->Q .non H')/\∀(a:Addr) (H':Hp) (G:List Int),ay H H'->H' a=some (.tup (G.map V.int))->Gr m (ts.map (·.2)) G->G.length=m->Q (.ref a) H'
@[irreducible] def tL:Sp:=wO
theorem jP {vs:List V}{H:Hp}{Q:VK}{E:XK}:tL vs H Q E↔wO vs H Q E:=by
 delta tL
 exact CW
section
variable  {P:Bi}{w:BQ}{K:A0}{mg:Str->Option AS}{base:Heap}{f T:Addr}{fd:Cd}
theorem eR:aH ["web", "order", "turn", "some", "place"] ["web"] (ak ow):=⟨rfl,rfl,rfl,by decide +kernel,rfl,by decide +kernel,by decide +kernel⟩
theorem dU:(["a", "b", "place", "order"]:List Str).Nodup:=by decide +kernel
theorem wQ (F:Fun K "_law_first" "_law_first" ow f fd)(B:Blt mg):bB P w K mg base CX0 1 f fd ["web"] tL:=by
 refine F.ok eR (λvs H Q E h =>?_) (λcdv A outer s H vs Q E hr h =>?_)
 ·obtain ⟨_,_,_,rfl,_⟩:=jP.mp h
  rfl
 obtain ⟨r,m,ts,rfl,W,m40,tl,q0,q1⟩:=jP.mp h
 refine ⟨_,(@af _ _ _ _ _ (@au _ _ 1 _ _ _ _ eR.nd rfl (Or.inr rfl) (@a9 _ _ _ _ _ ab) rfl (by first | exact .inl rfl | exact .inr rfl | assumption))
  (@af _ _ _ _ _ (@bR _ _ _ _ _ _ _ _ BZ rfl (aQ rfl B.b_range (@aa _ _ _ _ _ (@aA _ _ _ _ _ _ _ aB (pv 0) ah (λ_ _=>rfl)) ab rfl)) (aJ (i:=2) eR.nd rfl (Or.inl rfl))
   (@af _ _ _ _ _ (@au _ _ 3 _ _ _ _ eR.nd rfl (Or.inl rfl) (@bO _ _ _ _ ab) rfl (by first | exact .inl rfl | exact .inr rfl | assumption))
   (@af _ _ _ _ _ (@bR _ _ _ _ _ _ _ _ BZ rfl (aQ rfl B.b_range (@aa _ _ _ _ _ (@aA _ _ _ _ _ _ _ aB (pv 0) ah (λ_ _=>rfl)) ab rfl)) (aJ (i:=4) eR.nd rfl (Or.inr rfl))
    (@ai _ _ _ (@a6 _ _ _ _ _ _ _ _ (PW.pt (fK (av iH (pv 4) (pv 1) rfl) (dB (eX (az (iI rfl) rfl B.b_all ox (@aa _ _ _ _ _ (bF ["a", "b", "place", "order"] [none,none,some 4,some 1] rfl (@cX _ _ _ _ (@aA _ _ _ _ _ _ _ aB (pv 0) ah (λ_ _=>rfl))) rfl (λ_ _ _ _ _=>(d9 (K:=K) (i:=0) (j:=1) dU rfl rfl (Or.inl rfl) (Or.inl rfl))) (λ_ _ _ _ _=>(cN (av cy (pv 1) (pv 2) (aE _)))) (λ_ _ _ _ _=>(cu (js (K:=K)) (pv 0) (pv 3) rfl))) ab rfl)))))) (@ai _ _ _ (bE (cz Bt BS BU a7 (pv 3) (@aa _ _ _ _ _ (pv 4) ab rfl)))) aK)) (λ_=>rfl))
   (@af _ _ _ _ _ (@a6 _ _ _ _ _ _ _ _ (av (sM hr) (pv 3) (@bO _ _ _ _ ab) (aE _)) (@ai _ _ _ (@aD _ _ _ _ cW)) aK)
   (@ai _ _ _ (@au _ _ 1 _ _ _ _ eR.nd rfl (Or.inr rfl) (@aL _ _ _ _ _ _ _ _ cc (pv 1) (@a9 _ _ _ _ _ (@aa _ _ _ _ _ (@aA _ _ _ _ _ _ _ cv (pv 3) ah (λ_ _=>rfl)) ab rfl))) rfl (by first | exact .inl rfl | exact .inr rfl | assumption)))))) (λ_=>rfl))
  (@ai _ _ _ (@aD _ _ _ _ (pv 1))))),?_⟩
 refine ⟨(by show 0<=Ba;decide),λo0 ho0 =>?_⟩
 have g0:=ag ho0 (.tup [])
 have e0:upd H o0 (.tup []) o0=some (.tup (([]:List Int).map V.int)):=ae
 generalize upd H o0 (.tup [])=H0 at g0 e0
 obtain ⟨t,e1,e2⟩:=W.at'
 let W0:Nat->St->Hp->Prop:=λi σ H'=>∃(oa:Addr) (O:List Int) (c2 c3 c4:Option V),σ=[some (.ref r),some (.ref oa),c2,c3,c4]/\ay H H'/\H' oa=some (.tup (O.map V.int))/\O.length=i/\Gr m (ts.map (·.2)) O
 refine ⟨_,rfl,r,_,0,_,rfl,rfl,SqT.of (g0 _ _ e1),rfl,(m:Int),rfl,by lia,by lia,bh W0 ⟨o0,[],_,_,_,rfl,g0,e0,rfl,Gr.nil⟩ ?_ ?_⟩
 ·rintro i σ H1 hi ⟨oa,O,c2,c3,c4,rfl,s1,eO,lO,gr⟩
  refine ⟨(by show 0<=Ba;decide),λla hla =>?_⟩
  have hla0:H la=none:=s1.free hla
  have g2:=ag hla (.lst [])
  have ea:upd H1 la (.lst []) la=some (.lst (([]:List Int).map V.int)):=ae
  have s2:=s1.trans g2
  have eO2:=g2 _ _ eO
  have noa:oa≠la:=aq eO hla
  generalize upd H1 la (.lst [])=H2 at g2 ea s2 eO2
  let W1:Nat->St->Hp->Prop:=λj σ H'=>∃(c4:Option V) (S:List Int),σ=[some (.ref r),some (.ref oa),some (.int (0+(i:Int))),some (.ref la),c4]/\ay H H'/\H' oa=some (.tup (O.map V.int))/\H' la=some (.lst (S.map V.int))/\S.Pairwise (· < ·)/\∀v:Int,v∈S↔v<j/\Nx m (ts.map (·.2)) O v
  refine ⟨_,rfl,r,_,0,_,rfl,rfl,SqT.of (s2 _ _ e1),rfl,(m:Int),rfl,by lia,by lia,bh W1 ⟨_,[],rfl,s2,eO2,ea,List.Pairwise.nil,λv=>⟨λh=>(by cases h),λh=>(by have:=h.2.p0;lia)⟩⟩ ?_ ?_⟩
  ·rintro j σ H3 hj ⟨c4,S,rfl,s3,eO3,eS,rS,mS⟩
   have hj':(j:Int)<m:=by lia
   have ej:(0+(j:Int))=j:=by lia
   have lS:S.length<=j:=by
    have:=bA (m:=j) (rS.imp λ{a b} h=>by lia) λv hv=>⟨((mS v).mp hv).2.p0,((mS v).mp hv).1⟩
    exact this
   have stay:∀H4,ay H3 H4->¬ Nx m (ts.map (·.2)) O (j:Int)->∃(c4:Option V) (S:List Int),[some (.ref r),some (.ref oa),some (.int (0+(i:Int))),some (.ref la),some (.int (0+(j:Int)))]=[some (.ref r),some (.ref oa),some (.int (0+(i:Int))),some (.ref la),c4]/\ay H H4/\H4 oa=some (.tup (O.map V.int))/\H4 la=some (.lst (S.map V.int))/\S.Pairwise (· < ·)/\∀v:Int,v∈S↔v<((j+1:Nat):Int)/\Nx m (ts.map (·.2)) O v:=λH4 s4 no=>⟨_,S,rfl,s3.trans s4,s4 _ _ eO3,s4 _ _ eS,rS,λv=>by
     rw[mS v]
     constructor
     ·exact λh=>⟨by lia,h.2⟩
     ·rintro ⟨h1,h2⟩
      refine ⟨?_,h2⟩
      have:v≠j:=λe=>no (e ▸ h2)
      lia⟩
   refine ⟨_,rfl,_,rfl,oa,_,rfl,.inr (SqT.of eO3),rfl,bj O,_,rfl,jJ (λnj =>?_) λnj =>?_⟩
   ·have e13:=s3 _ _ e1
    have e23:=s3 _ _ e2
    refine ⟨_,rfl,r,_,1,_,rfl,rfl,SqT.of e13,rfl,t,rfl,⟨_,SqT.of e23⟩,cT (ts:=ts.map λu:Addr×List Int=>(u.1,V.int (u.2.getD 0 0),V.int (u.2.getD 1 0))) (λi ys H'=>H'=H3/\∃bs:List Bool,ys=bs.map V.bl/\((∀b∈bs,b=true)↔∀a:Int,[a,(j:Int)]∈(ts.take i).map (·.2)->a∈O)) (by decide) ⟨rfl,[],rfl,⟨λ_ a h=>(by cases h),λ_ b h=>(by cases h)⟩⟩ (by rw[AN];exact CK (small (by lia))) (λi ys H' _ k=>by rw[k.1];exact gO (W.same s3) e23) ?_ ?_⟩
    ·rintro l v ys H4 hv hy ⟨eH,bs,rfl,hb⟩ R1 R0 r1 r0
     obtain ⟨u,hu,rfl⟩:=gN hv
     obtain ⟨x,y,e3,_⟩:=W.rng u (A8 hu)
     have g0:u.2.getD 0 0=x:=by rw[e3];rfl
     have g1:u.2.getD 1 0=y:=by rw[e3];rfl
     rw[eH,g0,g1,ej]
     have tk:(ts.take (l+1)).map (·.2)=(ts.take l).map (·.2)++[[x,y]]:=by rw[BG,hu,A3, <- e3];rfl
     refine ⟨_,rfl,_,rfl,rfl,_,rfl,bV (λz =>?_) λz =>?_⟩
     ·have z:y=j:=V.int.inj (of_decide_eq_true z)
      refine ⟨_,rfl,_,rfl,oa,_,rfl,.inr (SqT.of eO3),rfl,bj O,?_⟩
      rw[tK]
      refine r1 _ _ ⟨rfl,bs++[decide (x∈O)],by rw[A3];rfl,?_⟩
      rw[tk]
      constructor
      ·intro h a ha
       rcases A7.mp ha with y' | y'
       ·exact hb.mp (λb hb'=>h b (BD _ hb')) a y'
       ·have:=AZ.mp y'
        cases this
        exact of_decide_eq_true (h _ (Bn _ (AZ.mpr rfl)))
      ·intro h b hb'
       rcases A7.mp hb' with y' | y'
       ·exact hb.mpr (λa ha=>h a (BD _ ha)) b y'
       ·rw[AZ.mp y']
        exact decide_eq_true (h x (Bn _ (by rw[z];exact AZ.mpr rfl)))
     ·have z:y≠j:=λe=>z (decide_eq_true (by rw[e]))
      refine r0 _ ⟨rfl,bs,rfl,?_⟩
      rw[hb,tk]
      constructor
      ·intro h a ha
       rcases A7.mp ha with y' | y'
       ·exact h a y'
       ·have:=AZ.mp y'
        cases this
        exact absurd rfl z
      ·exact λh a ha=>h a (BD _ ha)
    ·rintro ys H4 hy ⟨eH,bs,rfl,hb⟩ lc hlc
     rw[eH] at hlc ⊢
     rw[AN,Bb (AY _)] at hb
     have g4:=ag hlc (.lst (bs.map V.bl))
     refine ⟨lc,_,rfl,SqL.of ae,_,rfl,bV (λz =>?_) λz =>?_⟩
     ·have nx:Nx m (ts.map (·.2)) O (j:Int):=⟨by lia,hj',λh=>nj (by rw[ej];exact h),λa ha=>hb.mp (λb hb'=>by
       rw[CD] at z
       exact z b hb') a ha⟩
      have eS4:=g4 _ _ eS
      have eO4:=g4 _ _ eO3
      have s4:=s3.trans g4
      refine ⟨_,rfl,.inl ⟨rfl,_,SqL.of eS4⟩,_,rfl,la,_,_,rfl,rfl,eS4,by rw[AN];exact aY (by lia),?_⟩
      refine ⟨_,S++[(j:Int)],rfl,ay.bT s4 hla0 _,?_,?_,?_,λv =>?_⟩
      ·rw[aj noa];exact eO4
      ·rw[ae,A3,ej];rfl
      ·exact Cn.mpr ⟨rS,CO _ _,λa ha b hb'=>by rw[AZ.mp hb'];exact ((mS a).mp ha).1⟩
      ·rw[A7,AZ,mS v]
       constructor
       ·rintro (h | h)
        ·exact ⟨by lia,h.2⟩
        ·rw[h];exact ⟨by lia,nx⟩
       ·rintro ⟨h1,h2⟩
        by_cases c:v=j
        ·exact .inr c
        ·exact .inl ⟨by lia,h2⟩
     ·refine stay _ g4 λnx=>z ?_
      rw[CD]
      exact λb hb'=>hb.mpr (λa ha=>nx.fr a ha) b hb'
   ·exact bH (stay H3 (ay.refl _) λnx=>nx.nm (by rw[<- ej];exact nj))
  ·rintro σ H3 ⟨c4,S,rfl,s3,eO3,eS,rS,mS⟩
   rw[B2] at mS
   refine ⟨_,rfl,(by show 0<=Ba;decide),λl9 hl9 =>?_⟩
   have g9:=ag hl9 (.lst [])
   have e9:upd H3 l9 (.lst []) l9=some (.lst (([]:List Int).map V.int)):=ae
   generalize upd H3 l9 (.lst [])=H4 at g9 e9
   have s4:=s3.trans g9
   have eS4:=g9 _ _ eS
   refine ⟨la,l9,S,[],rfl,rfl,SqL.of eS4,SqL.of e9,_,rfl,bV (λz =>?_) λz =>?_⟩
   ·have z:=of_decide_eq_true z
    refine q0 H4 O s4 gr (λp hp =>?_) (by lia)
    have:=(mS p).mpr ⟨hp.pm,hp⟩
    rw[z] at this;cases this
   ·obtain ⟨p,S',eS'⟩:∃p S',S=p :: S':=by
     cases S with
     | nil=>exact absurd (decide_eq_true rfl) z
     | cons a l=>exact ⟨a,l,rfl⟩
    have np:=((mS p).mp (by rw[eS'];exact Be)).2
    have le:∀x,Nx m (ts.map (·.2)) O x->p<=x:=λx hx=>by
     have:=(mS x).mpr ⟨hx.pm,hx⟩
     rw[eS'] at this rS
     rcases Bs.mp this with y | y
     ·lia
     ·have:=(CA.mp rS).1 x y;lia
    have eO4:=g9 _ _ eO3
    refine ⟨_,rfl,_,rfl,la,_,0,.int p,rfl,rfl,SqL.of eS4,(by show atI _ ((0:Nat):Int)=_;exact bP (by rw[eS'];rfl)),(by show 1<=Ba;decide),λtp htp =>?_⟩
    have g5:=ag htp (.tup [.int p])
    refine ⟨oa,tp,_,_,rfl,rfl,g5 _ _ eO4,ae,by rw[AN];exact small (by show _+1<=_;lia),λob H6 s6 e6 =>?_⟩
    refine ⟨ob,O++[p],_,_,_,rfl,s4.trans (g5.trans s6),by rw[e6,A3];rfl,by rw[AR,lO];rfl,gr.snoc np le⟩
 ·rintro σ H1 ⟨oa,O,c2,c3,c4,rfl,s1,eO,lO,gr⟩
  rw[B2] at lO
  exact ⟨_,rfl,q1 oa H1 O s1 eO gr lO⟩
end
abbrev wR:Sp:=λvs H Q _=>∃(r z:Addr) (m:Nat) (ts:List (Addr×List Int)),vs=[.ref r,.ref z]/\Ow H r (m:Int) ts/\m<=40/\ts.length<=250/\((∃(a:Addr) (G:List Int),H z=some (.tup [.str "ranks",.ref a])/\H a=some (.tup (G.map V.int))/\Gr m (ts.map (·.2)) G/\Stk m (ts.map (·.2)) G/\G.length=m)\/∃(a:Addr) (F:List Int),H z=some (.tup [.str "round",.ref a])/\H a=some (.tup (F.map V.int))/\Rd (ts.map (·.2)) F/\F.length<=290)/\∀H',ay H H'->Q (.bl true) H'
@[irreducible] def tM:Sp:=wR
theorem jQ {vs:List V}{H:Hp}{Q:VK}{E:XK}:tM vs H Q E↔wR vs H Q E:=by
 delta tM
 exact CW
section
variable  {P:Bi}{w:BQ}{K:A0}{mg:Str->Option AS}{base:Heap}{f T:Addr}{fd:Cd}
theorem gu:aH ["web", "found", "due"] ["web", "found"] (ak dP):=⟨rfl,rfl,rfl,by decide +kernel,rfl,by decide +kernel,by decide +kernel⟩
theorem me (F:Fun K "_law_ranked_right" "_law_ranked_right" dP f fd)(B:Blt mg)(cLFirst:Cal P w K mg base 1 "_law_first" ["web"] tL)(cLRoundFree:Cal P w K mg base 1 "_law_round_free" ["web"] lQ)(cLIsRound:Cal P w K mg base 1 "_law_is_round" ["web", "places"] qf):bB P w K mg base CX0 2 f fd ["web", "found"] tM:=by
 refine F.ok gu (λvs H Q E h =>?_) (λcdv A outer s H vs Q E hr h =>?_)
 ·obtain ⟨_,_,_,_,rfl,_⟩:=jQ.mp h
  rfl
 obtain ⟨r,z,m,ts,rfl,W,m40,tl,hz,q⟩:=jQ.mp h
 refine ⟨_,(@af _ _ _ _ _ (@au _ _ 2 _ _ _ _ gu.nd rfl (Or.inl rfl) (ax cLFirst hr (by decide) rfl (@aa _ _ _ _ _ (pv 0) ab rfl)) rfl (by first | exact .inl rfl | exact .inr rfl | assumption))
  (@af _ _ _ _ _ (@a6 _ _ _ _ _ _ _ _ (PW.pt (fL (fM (eX (az ck rfl B.b_isinstance bN (@aa _ _ _ _ _ (pv 1) (@aa _ _ _ _ _ (gB (v :=.ty "tuple") rfl B.b_tuple aX rfl) ab rfl) rfl)))) (fL (av mK (az aO rfl B.b_len cj (@aa _ _ _ _ _ (pv 1) ab rfl)) ah (aE _)) (fJ (av cy (cu nT (pv 2) cW (aE _)) (ax cLRoundFree hr (by decide) rfl (@aa _ _ _ _ _ (pv 0) ab rfl)) (aE _)))))) cA aK)
  (@af _ _ _ _ _ (@a6 _ _ _ _ _ _ _ _ (av nT (pv 2) cW (aE _)) (@ai _ _ _ (@aD _ _ _ _ (vn (cu cy (@aA _ _ _ _ _ _ _ aB (pv 1) ah (λ_ _=>rfl)) kB (aE _)) (vm (ax cLIsRound hr (by decide) rfl (@aa _ _ _ _ _ (pv 0) (@aa _ _ _ _ _ (@aA _ _ _ _ _ _ _ aB (pv 1) ah (λ_ _=>rfl)) ab rfl) rfl)))))) aK)
  (@ai _ _ _ (@aD _ _ _ _ (vn (cu (yb hr) (pv 1) (@a9 _ _ _ _ _ (@aa _ _ _ _ _ kB (@aa _ _ _ _ _ (pv 2) ab rfl) rfl)) (aE _)) (vm (az ck rfl B.b_isinstance bN (@aa _ _ _ _ _ (@aA _ _ _ _ _ _ _ aB (pv 1) ah (λ_ _=>rfl)) (@aa _ _ _ _ _ (gB (v :=.ty "tuple") rfl B.b_tuple aX rfl) ab rfl) rfl))))))))),?_⟩
 have O:=hV W
 obtain ⟨G0,gr0,st0⟩:=Gr.ex m (ts.map (·.2))
 obtain ⟨w1,w2,ez⟩:∃w1 w2,H z=some (.tup [w1,w2]):=by
  rcases hz with ⟨a,G,h,_⟩ | ⟨a,G,h,_⟩
  ·exact ⟨_,_,h⟩
  ·exact ⟨_,_,h⟩
 refine ⟨_,rfl,jP.mpr ⟨r,m,ts,rfl,W,m40,tl,λH1 G s1 gr st nl =>?_,λda H1 G s1 ed gr l =>?_⟩⟩
 ·refine ⟨_,rfl,.ref z, "tuple",_,true,rfl,.tup (s1 _ _ ez),rfl,_,rfl,bH ?_⟩
  refine ⟨_,rfl,z,_,rfl,.inr (SqT.of (s1 _ _ ez)),rfl,_,rfl,bH ?_⟩
  refine ⟨_,rfl,rfl,_,rfl,dk.mpr ⟨r,m,ts,rfl,W.same s1,m40,tl,λb H2 s2 hb =>?_⟩⟩
  have s02:=s1.trans s2
  have bf:b=false:=by
   cases b with
   | false=>rfl
   | true=>exact absurd ((hb G gr st).mp rfl) nl
  subst bf
  refine ⟨rfl,_,rfl,?_⟩
  rw[decide_eq_false (by intro z;cases z)]
  refine bH ⟨_,rfl,rfl,_,rfl,cG ?_⟩
  rcases hz with ⟨a,G',h1,h2,g',s',l'⟩ | ⟨a,F,h1,h2,rd,lF⟩
  ·exact absurd ((i8 gr st).mp ⟨G',g',l'⟩) nl
  refine ⟨_,rfl,z,_,0,_,rfl,rfl,SqT.of (s02 _ _ h1),rfl,rfl,_,rfl,?_⟩
  rw[decide_eq_true rfl]
  refine cG ⟨_,rfl,_,rfl,z,_,1,_,rfl,rfl,SqT.of (s02 _ _ h1),rfl,gP.mpr ⟨r,a,m,ts,F,rfl,W.same s02,s02 _ _ h2,lF,λb3 H3 s3 hb3 =>?_⟩⟩
  rw[hb3.mpr rd]
  exact q H3 (s02.trans s3)
 ·refine ⟨_,rfl,.ref z, "tuple",_,true,rfl,.tup (s1 _ _ ez),rfl,_,rfl,bH ?_⟩
  refine ⟨_,rfl,z,_,rfl,.inr (SqT.of (s1 _ _ ez)),rfl,_,rfl,bH ?_⟩
  refine ⟨_,rfl,rfl,_,rfl,dk.mpr ⟨r,m,ts,rfl,W.same s1,m40,tl,λb H2 s2 hb =>?_⟩⟩
  have s02:=s1.trans s2
  have l0:G0.length=m:=(i8 gr0 st0).mp ⟨G,gr,l⟩
  have bt:b=true:=(hb G0 gr0 st0).mpr l0
  subst bt
  refine ⟨rfl,_,rfl,?_⟩
  rw[decide_eq_false (by intro z;cases z)]
  refine bH ⟨_,rfl,rfl,_,rfl,bH ?_⟩
  rcases hz with ⟨a,G',h1,h2,g',s',l'⟩ | ⟨a,F,h1,h2,rd,lF⟩
  ·have eG:G'=G:=by
    have e1:=gr0.one st0 g' s'
    have:=gr0.is gr (by lia)
    rw[l0, <- l,Bb (AY _)] at this
    rw[<- e1,this]
   subst eG
   refine ⟨_,rfl,_,rfl,(by show 2<=Ba;decide),λtp htp =>?_⟩
   have g3:=ag htp (.tup [.str "ranks",.ref da])
   have s03:=s02.trans g3
   refine ⟨z,tp,_,_,rfl,rfl,SqT.of (s03 _ _ h1),SqT.of ae,.cons (.inr (.inl ⟨_,rfl,rfl⟩)) (.cons (.inr (.inr (.inr ⟨a,da,_,_,rfl,rfl,.inl ⟨SqT.of (s03 _ _ h2),SqT.of (g3 _ _ (s2 _ _ ed))⟩,jb _⟩))) .nil),_,rfl,cG ?_⟩
   exact ⟨_,rfl,z,_,1,_,rfl,rfl,SqT.of (s03 _ _ h1),rfl,.ref a, "tuple",_,true,rfl,.tup (s03 _ _ h2),rfl,q _ s03⟩
  ·exact absurd ⟨G,gr,l⟩ (tG O rd)
end
open PySem L2
theorem szL:100000<=Ba:=by decide
theorem mf (Z:List Int)(lo hi:Option Int):∃Z':List Int,fE (Z.map V.int) lo hi=Z'.map V.int/\Z'.length=HT.sIx Z.length Z.length hi-HT.sIx Z.length 0 lo:=by
 unfold fE
 rw[AN]
 refine ⟨(Z.drop (HT.sIx Z.length 0 lo)).take (HT.sIx Z.length Z.length hi-HT.sIx Z.length 0 lo),?_,?_⟩
 ·rw[Gh,Hy]
 ·rw[B4,Co]
  have:=HT.vA Z.length Z.length (AY _) hi
  lia
theorem yR (Z:List Int)(a:Nat):∃Z':List Int,fE (Z.map V.int) none (some (a:Int))=Z'.map V.int/\Z'.length=min a Z.length:=by
 obtain ⟨Z',e,l⟩:=mf Z none (some (a:Int))
 exact ⟨Z',e,by rw[l,HT.j8];rfl⟩
theorem oQ (Z:List Int)(a:Nat):∃Z':List Int,fE (Z.map V.int) (some (a:Int)) none=Z'.map V.int/\Z'.length=Z.length-min a Z.length:=by
 obtain ⟨Z',e,l⟩:=mf Z (some (a:Int)) none
 exact ⟨Z',e,by rw[l,HT.j8];rfl⟩
theorem z0 (Z:List Int)(a b:Nat):∃Z':List Int,fE (Z.map V.int) (some (a:Int)) (some (b:Int))=Z'.map V.int/\Z'.length=min b Z.length-min a Z.length:=by
 obtain ⟨Z',e,l⟩:=mf Z (some (a:Int)) (some (b:Int))
 exact ⟨Z',e,by rw[l,HT.j8,HT.j8]⟩
abbrev tN:Sp:=λvs H Q _=>∃(p o:Addr) (os:List Int),vs=[.ref p,.ref o]/\Pt 1 H p/\H o=some (.tup (os.map V.int))/\os.length<=10000/\∀(b:Addr) (ws:List Int) (H':Hp),Bu 1 p H H'->H' b=some (.tup (ws.map V.int))->ws.length<=os.length+1->Q (.ref b) H'
@[irreducible] def oR:Sp:=tN
theorem iw {vs:List V}{H:Hp}{Q:VK}{E:XK}:oR vs H Q E↔tN vs H Q E:=by
 delta oR
 exact CW
section
variable  {P:Bi}{w:BQ}{K:A0}{mg:Str->Option AS}{base:Heap}{f T:Addr}{fd:Cd}
theorem jf:aH ["pot", "order", "at", "to", "way", "rest"] ["pot", "order"] (ak rh):=⟨rfl,rfl,rfl,by decide +kernel,rfl,by decide +kernel,by decide +kernel⟩
theorem yr (F:Fun K "_law_bent" "_law_bent" rh f fd)(B:Blt mg)(cLTake:Cal P w K mg base 1 "_law_take" ["pot", "many"] ij):bB P w K mg base CX0 2 f fd ["pot", "order"] oR:=by
 refine F.ok jf (λvs H Q E h =>?_) (λcdv A outer s H vs Q E hr h =>?_)
 ·obtain ⟨_,_,_,rfl,_⟩:=iw.mp h
  rfl
 obtain ⟨p,o,os,rfl,hp,eo,lo,q⟩:=iw.mp h
 refine ⟨_,(@af _ _ _ _ _ (@au _ _ 2 _ _ _ _ jf.nd rfl (Or.inl rfl) (ax cLTake hr (by decide) rfl (@aa _ _ _ _ _ (pv 0) (@aa _ _ _ _ _ (@aL _ _ _ _ _ _ _ _ bS (az aO rfl B.b_len cj (@aa _ _ _ _ _ (pv 1) ab rfl)) ah) ab rfl) rfl)) rfl (by first | exact .inl rfl | exact .inr rfl | assumption))
  (@af _ _ _ _ _ (@au _ _ 3 _ _ _ _ jf.nd rfl (Or.inl rfl) (ax cLTake hr (by decide) rfl (@aa _ _ _ _ _ (pv 0) (@aa _ _ _ _ _ (@aL _ _ _ _ _ _ _ _ bS (az aO rfl B.b_len cj (@aa _ _ _ _ _ (pv 1) ab rfl)) ah) ab rfl) rfl)) rfl (by first | exact .inl rfl | exact .inr rfl | assumption))
  (@af _ _ _ _ _ (@au _ _ 4 _ _ _ _ jf.nd rfl (Or.inl rfl) (ax cLTake hr (by decide) rfl (@aa _ _ _ _ _ (pv 0) (@aa _ _ _ _ _ ah ab rfl) rfl)) rfl (by first | exact .inl rfl | exact .inr rfl | assumption))
  (@af _ _ _ _ _ (@a6 _ _ _ _ _ _ _ _ (av cy (pv 4) ah (aE _)) (@ai _ _ _ (@aD _ _ _ _ (yc (pv 1)))) aK)
  (@af _ _ _ _ _ (@a6 _ _ _ _ _ _ _ _ (av cy (pv 4) ah (aE _)) (@ai _ _ _ (@aD _ _ _ _ (@aL _ _ _ _ _ _ _ _ cc (ba bQ (pv 1) bU (bq (pv 2))) (ba bQ (pv 1) (bq (@aL _ _ _ _ _ _ _ _ bS (pv 2) ah)) bU)))) aK)
  (@af _ _ _ _ _ (@a6 _ _ _ _ _ _ _ _ (av cy (pv 4) ah (aE _)) (@ai _ _ _ (@aD _ _ _ _ (@aL _ _ _ _ _ _ _ _ cc (@aL _ _ _ _ _ _ _ _ cc (ba bQ (pv 1) bU (bq (pv 2))) (ba bQ (pv 1) (bq (pv 2)) (bq (@aL _ _ _ _ _ _ _ _ bS (pv 2) ah)))) (ba bQ (pv 1) (bq (pv 2)) bU)))) aK)
  (@af _ _ _ _ _ (@a6 _ _ _ _ _ _ _ _ (av cy (pv 4) ah (aE _)) (@ai _ _ _ (@aD _ _ _ _ (@aL _ _ _ _ _ _ _ _ cc (@aL _ _ _ _ _ _ _ _ cc (ba bQ (pv 1) bU (bq (pv 2))) (@a9 _ _ _ _ _ (@aa _ _ _ _ _ (@aA _ _ _ _ _ _ _ aB (@a9 _ _ _ _ _ (@aa _ _ _ _ _ (yy vx ah) (@aa _ _ _ _ _ ah (@aa _ _ _ _ _ (az aO rfl B.b_len cj (@aa _ _ _ _ _ (pv 1) ab rfl)) ab rfl) rfl) rfl)) (ax cLTake hr (by decide) rfl (@aa _ _ _ _ _ (pv 0) (@aa _ _ _ _ _ ah ab rfl) rfl)) (λ_ _=>rfl)) ab rfl))) (ba bQ (pv 1) (bq (@aL _ _ _ _ _ _ _ _ bS (pv 2) ah)) bU)))) aK)
  (@af _ _ _ _ _ (@au _ _ 5 _ _ _ _ jf.nd rfl (Or.inl rfl) (@aL _ _ _ _ _ _ _ _ cc (ba bQ (pv 1) bU (bq (pv 2))) (ba bQ (pv 1) (bq (@aL _ _ _ _ _ _ _ _ bS (pv 2) ah)) bU)) rfl (by first | exact .inl rfl | exact .inr rfl | assumption))
  (@ai _ _ _ (@aD _ _ _ _ (@aL _ _ _ _ _ _ _ _ cc (@aL _ _ _ _ _ _ _ _ cc (ba bQ (pv 5) bU (bq (pv 3))) (ba bQ (pv 1) (bq (pv 2)) (bq (@aL _ _ _ _ _ _ _ _ bS (pv 2) ah)))) (ba bQ (pv 5) (bq (pv 3)) bU)))))))))))),?_⟩
 have lm:(os.map V.int).length=os.length:=AN _
 refine ⟨_,rfl,_,rfl,o,_,rfl,.inr (SqT.of eo),_,_,rfl,rfl,aN.mpr ⟨p,(os.length:Int)+1,by rw[lm];rfl,hp,by lia,by lia,λat' H1 a0 a1 u1 =>?_⟩⟩
 have eo1:=u1.tup hp eo
 refine ⟨_,rfl,_,rfl,o,_,rfl,.inr (SqT.of eo1),_,_,rfl,rfl,aN.mpr ⟨p,(os.length:Int)+1,by rw[lm];rfl,u1.pot,by lia,by lia,λto H2 t0 t1 u2' =>?_⟩⟩
 have u2:=u1.trans u2'
 refine ⟨_,rfl,aN.mpr ⟨p,6,rfl,u2.pot,by decide,by decide,λwy H3 w0 w1 u3' =>?_⟩⟩
 have u3:=u2.trans u3'
 have eo3:=u3.tup hp eo
 obtain ⟨a,rfl⟩:∃a:Nat,at'=a:=⟨at'.toNat,by lia⟩
 obtain ⟨tn,rfl⟩:∃a:Nat,to=a:=⟨to.toNat,by lia⟩
 obtain ⟨Z1,c1,l1⟩:=yR os a
 obtain ⟨Z2,c2,l2⟩:=oQ os (a+1)
 obtain ⟨Z3,c3,l3⟩:=z0 os a (a+1)
 obtain ⟨Z4,c4,l4⟩:=oQ os a
 rw[show ((a+1:Nat):Int)=(a:Int)+1 from rfl] at c2 c3
 refine ⟨_,rfl,rfl,_,rfl,bV (λz =>?_) λz =>?_⟩
 ·refine ⟨_,rfl,o,_,rfl,SqT.of eo3,λb hb =>?_⟩
  rw[<- List.map_reverse]
  exact q b _ _ (u3.same (ag hb _)) ae (by rw[D9];lia)
 refine ⟨_,rfl,rfl,_,rfl,bV (λz =>?_) λz =>?_⟩
 ·refine ⟨_,rfl,_,rfl,_,rfl,o,_,rfl,eo3,λp1 H4 s4 e1 =>?_⟩
  refine ⟨_,rfl,_,rfl,_,_,rfl,rfl,_,rfl,o,_,rfl,s4 _ _ eo3,λp2 H5 s5 e2 =>?_⟩
  rw[c1] at e1
  rw[c2] at e2
  refine ⟨p1,p2,_,_,rfl,rfl,s5 _ _ e1,e2,(by rw[AN,AN];have:=szL;lia),λp3 H6 s6 e3 =>?_⟩
  rw[<- A3] at e3
  exact q p3 _ H6 (u3.same (s4.trans (s5.trans s6))) e3 (by rw[AR];lia)
 refine ⟨_,rfl,rfl,_,rfl,bV (λz =>?_) λz =>?_⟩
 ·refine ⟨_,rfl,_,rfl,_,rfl,o,_,rfl,eo3,λp1 H4 s4 e1 =>?_⟩
  refine ⟨_,rfl,_,rfl,_,rfl,_,rfl,_,_,rfl,rfl,_,rfl,o,_,rfl,s4 _ _ eo3,λp2 H5 s5 e2 =>?_⟩
  rw[c1] at e1
  rw[c3] at e2
  refine ⟨p1,p2,_,_,rfl,rfl,s5 _ _ e1,e2,(by rw[AN,AN];have:=szL;lia),λp3 H6 s6 e3 =>?_⟩
  rw[<- A3] at e3
  refine ⟨_,rfl,_,rfl,_,rfl,o,_,rfl,s6 _ _ (s5 _ _ (s4 _ _ eo3)),λp4 H7 s7 e4 =>?_⟩
  rw[c4] at e4
  refine ⟨p3,p4,_,_,rfl,rfl,s7 _ _ e3,e4,(by rw[AN,AN,AR];have:=szL;lia),λp5 H8 s8 e5 =>?_⟩
  rw[<- A3] at e5
  exact q p5 _ H8 (u3.same (s4.trans (s5.trans (s6.trans (s7.trans s8))))) e5 (by rw[AR,AR];lia)
 refine ⟨_,rfl,rfl,_,rfl,bV (λz =>?_) λz =>?_⟩
 ·refine ⟨_,rfl,_,rfl,_,rfl,o,_,rfl,eo3,λp1 H4 s4 e1 =>?_⟩
  rw[c1] at e1
  refine ⟨_,rfl,_,rfl,o,_,rfl,.inr (SqT.of (s4 _ _ eo3)),(by show 3<=Ba;decide),λtq htq =>?_⟩
  have g5:=ag htq (.tup [.int (-1),.int 99,.int ((os.map V.int).length:Nat)])
  have e5:upd H4 tq (.tup [.int (-1),.int 99,.int ((os.map V.int).length:Nat)]) tq=some (.tup [.int (-1),.int 99,.int ((os.map V.int).length:Nat)]):=ae
  have u5:=u3.same (s4.trans g5)
  have eo5:=g5 _ _ (s4 _ _ eo3)
  have e15:=g5 _ _ e1
  generalize upd H4 tq (.tup [.int (-1),.int 99,.int ((os.map V.int).length:Nat)])=H5 at g5 e5 u5 eo5 e15
  refine ⟨_,rfl,aN.mpr ⟨p,3,rfl,u5.pot,by decide,by decide,λd H6 d0 d1 u6' =>?_⟩⟩
  obtain ⟨x,ex⟩:∃x:Int,atI [V.int (-1),V.int 99,V.int ((os.map V.int).length:Nat)] d=some (.int x):=by
   rcases (show d=0\/d=1\/d=2 by lia) with y | y | y <;> subst y <;> exact ⟨_,rfl⟩
  refine ⟨tq,_,_,_,rfl,rfl,SqT.of (u6'.tup u5.pot e5),ex,(by show 1<=Ba;decide),λtp htp =>?_⟩
  have g7:=ag htp (.tup [.int x])
  have e7:upd H6 tp (.tup [.int x]) tp=some (.tup (([x]:List Int).map V.int)):=ae
  generalize upd H6 tp (.tup [.int x])=H7 at g7 e7
  refine ⟨p1,tp,_,_,rfl,rfl,g7 _ _ (u6'.tup u5.pot e15),e7,(by rw[AN];have:=szL;show _+1<=_;lia),λp3 H8 s8 e8 =>?_⟩
  rw[<- A3] at e8
  refine ⟨_,rfl,_,rfl,_,_,rfl,rfl,_,rfl,o,_,rfl,s8 _ _ (g7 _ _ (u6'.tup u5.pot eo5)),λp4 H9 s9 e9 =>?_⟩
  rw[c2] at e9
  refine ⟨p3,p4,_,_,rfl,rfl,s9 _ _ e8,e9,(by rw[AN,AN,AR];have:=szL;show _+1+_<=_;lia),λp5 Ha sa ea =>?_⟩
  rw[<- A3] at ea
  exact q p5 _ Ha ((u5.trans u6').same (g7.trans (s8.trans (s9.trans sa)))) ea (by rw[AR,AR];show _+1+_<=_;lia)
 refine ⟨_,rfl,_,rfl,_,rfl,o,_,rfl,eo3,λp1 H4 s4 e1 =>?_⟩
 refine ⟨_,rfl,_,rfl,_,_,rfl,rfl,_,rfl,o,_,rfl,s4 _ _ eo3,λp2 H5 s5 e2 =>?_⟩
 rw[c1] at e1
 rw[c2] at e2
 refine ⟨p1,p2,_,_,rfl,rfl,s5 _ _ e1,e2,(by rw[AN,AN];have:=szL;lia),λp3 H6 s6 e3 =>?_⟩
 rw[<- A3] at e3
 obtain ⟨R1,d1,k1⟩:=yR (Z1++Z2) tn
 obtain ⟨R2,d2,k2⟩:=oQ (Z1++Z2) tn
 rw[AR] at k1 k2
 refine ⟨_,rfl,_,rfl,_,rfl,p3,_,rfl,e3,λp4 H7 s7 e4 =>?_⟩
 rw[d1] at e4
 refine ⟨_,rfl,_,rfl,_,rfl,_,rfl,_,_,rfl,rfl,_,rfl,o,_,rfl,s7 _ _ (s6 _ _ (s5 _ _ (s4 _ _ eo3))),λp5 H8 s8 e5 =>?_⟩
 rw[c3] at e5
 refine ⟨p4,p5,_,_,rfl,rfl,s8 _ _ e4,e5,(by rw[AN,AN];have:=szL;lia),λp6 H9 s9 e6 =>?_⟩
 rw[<- A3] at e6
 refine ⟨_,rfl,_,rfl,_,rfl,p3,_,rfl,s9 _ _ (s8 _ _ (s7 _ _ e3)),λp7 Ha sa e7 =>?_⟩
 rw[d2] at e7
 refine ⟨p6,p7,_,_,rfl,rfl,sa _ _ e6,e7,(by rw[AN,AN,AR];have:=szL;lia),λp8 Hb sb e8 =>?_⟩
 rw[<- A3] at e8
 exact q p8 _ Hb (u3.same (s4.trans (s5.trans (s6.trans (s7.trans (s8.trans (s9.trans (sa.trans sb)))))))) e8 (by rw[AR,AR];lia)
end
open PySem L2
abbrev tO:Sp:=λvs H Q _=>∃(p b:Addr) (m:Nat) (ts:List (Addr×List Int)),vs=[.ref p,.ref b]/\Pt 1 H p/\Ow H b (m:Int) ts/\m<=40/\ts.length<=250/\∀H',Bu 1 p H H'->Q (.bl true) H'
@[irreducible] def oS:Sp:=tO
theorem iy {vs:List V}{H:Hp}{Q:VK}{E:XK}:oS vs H Q E↔tO vs H Q E:=by
 delta oS
 exact CW
theorem wU {m:Nat}{E:List (List Int)}{b:Bool}(h:∀G,Gr m E G->Stk m E G->(b=true↔G.length=m)):b=true↔Clr m E:=by
 obtain ⟨G,g,s⟩:=Gr.ex m E
 rw[i8 g s]
 exact h G g s
section
variable  {P:Bi}{w:BQ}{K:A0}{mg:Str->Option AS}{base:Heap}{f T:Addr}{fd:Cd}
theorem bZ:aH ["pot", "web", "turn", "places", "due", "told", "found"] ["pot", "web"] (ak gf):=⟨rfl,rfl,rfl,by decide +kernel,rfl,by decide +kernel,by decide +kernel⟩
theorem oT (F:Fun K "_law_sets_right" "_law_sets_right" gf f fd)(B:Blt mg)(cLSomePlaces:Cal P w K mg base 2 "_law_some_places" ["pot", "many"] ki)(cLRoundFree:Cal P w K mg base 1 "_law_round_free" ["web"] lQ)(cClearsOneway:Cal P w K mg base 5 "clears_oneway" ["web", "places"] yp)(cRoundOff:Cal P w K mg base 4 "round_off" ["web", "places"] yq)(cLLess:Cal P w K mg base 1 "_law_less" ["web", "places"] oF)(cLIsRound:Cal P w K mg base 1 "_law_is_round" ["web", "places"] qf):bB P w K mg base CX0 6 f fd ["pot", "web"] oS:=by
 refine F.ok bZ (λvs H Q E h =>?_) (λcdv A outer s H vs Q E hr h =>?_)
 ·obtain ⟨_,_,_,_,rfl,_⟩:=iy.mp h
  rfl
 obtain ⟨p,b,m,ts,rfl,hp,W,hm,tl,q⟩:=iy.mp h
 refine ⟨_,(@af _ _ _ _ _ (@bR _ _ _ _ _ _ _ _ BZ rfl (aQ rfl B.b_range (@aa _ _ _ _ _ ah ab rfl)) (aJ (i:=2) bZ.nd rfl (Or.inl rfl))
   (@af _ _ _ _ _ (@au _ _ 3 _ _ _ _ bZ.nd rfl (Or.inl rfl) (ax cLSomePlaces hr (by decide) rfl (@aa _ _ _ _ _ (pv 0) (@aa _ _ _ _ _ (@aA _ _ _ _ _ _ _ aB (pv 1) ah (λ_ _=>rfl)) ab rfl) rfl)) rfl (by first | exact .inl rfl | exact .inr rfl | assumption))
   (@af _ _ _ _ _ (@au _ _ 4 _ _ _ _ bZ.nd rfl (Or.inl rfl) (ax cLRoundFree hr (by decide) rfl (@aa _ _ _ _ _ (ax cLLess hr (by decide) rfl (@aa _ _ _ _ _ (pv 1) (@aa _ _ _ _ _ (pv 3) ab rfl) rfl)) ab rfl)) rfl (by first | exact .inl rfl | exact .inr rfl | assumption))
   (@af _ _ _ _ _ (@au _ _ 5 _ _ _ _ bZ.nd rfl (Or.inl rfl) (ax cClearsOneway hr (by decide) rfl (@aa _ _ _ _ _ (pv 1) (@aa _ _ _ _ _ (pv 3) ab rfl) rfl)) rfl (by first | exact .inl rfl | exact .inr rfl | assumption))
   (@af _ _ _ _ _ (@au _ _ 6 _ _ _ _ bZ.nd rfl (Or.inl rfl) (ax cRoundOff hr (by decide) rfl (@aa _ _ _ _ _ (pv 1) (@aa _ _ _ _ _ (pv 3) ab rfl) rfl)) rfl (by first | exact .inl rfl | exact .inr rfl | assumption))
   (@af _ _ _ _ _ (@a6 _ _ _ _ _ _ _ _ (PW.pt (fL (fM (eX (az ck rfl B.b_isinstance bN (@aa _ _ _ _ _ (pv 5) (@aa _ _ _ _ _ (gB (v :=.ty "bool") rfl B.b_bool sO rfl) ab rfl) rfl)))) (fL (av mK (pv 5) (pv 4) (aE _)) (fJ (av mK (cu nT (pv 6) cW (aE _)) (pv 4) (aE _)))))) cA aK)
   (@ai _ _ _ (@a6 _ _ _ _ _ _ _ _ (PW.pt (fK (av nU (pv 6) cW (aE _)) (dB (fM (eX (ax cLIsRound hr (by decide) rfl (@aa _ _ _ _ _ (ax cLLess hr (by decide) rfl (@aa _ _ _ _ _ (pv 1) (@aa _ _ _ _ _ (pv 3) ab rfl) rfl)) (@aa _ _ _ _ _ (pv 6) ab rfl) rfl))))))) cA aK))))))) (λ_=>rfl))
  (@ai _ _ _ (@aD _ _ _ _ kA))),?_⟩
 refine ⟨4,rfl,by decide,by decide,bh (n:=4) (λ_ σ H'=>(∃c2 c3 c4 c5 c6,σ=[some (.ref p),some (.ref b),c2,c3,c4,c5,c6])/\Bu 1 p H H') ⟨⟨_,_,_,_,_,rfl⟩,Bu.refl hp⟩ ?_ (λσ H' h=>q _ h.2)⟩
 rintro k σ H1 hk ⟨⟨c2,c3,c4,c5,c6,rfl⟩,u1⟩
 have W1:=W.bu u1 hp
 obtain ⟨t,e1,e2⟩:=W1.at'
 refine ⟨_,rfl,_,rfl,b,_,0,_,rfl,rfl,SqT.of e1,rfl,gn.mpr ⟨p,m,rfl,u1.pot,hm,λpl P H2 u2' epl lP =>?_⟩⟩
 have u2:=u1.trans u2'
 have W2:=W.bu u2 hp
 refine ⟨_,rfl,_,rfl,fD.mpr ⟨b,pl,m,ts,P,rfl,W2,tl,epl,λlw us H3 s3 W3 eu =>?_⟩⟩
 have lu:us.length<=ts.length:=by have:=congrArg List.length eu;rw[AN] at this;rw[this];exact BL (DP _ _) (by rw[AN];exact AY _)
 refine dk.mpr ⟨lw,m,us,rfl,W3,hm,by lia,λdu H4 s4 hdu' =>?_⟩
 have hdu:=wU hdu'
 rw[eu] at hdu
 have s24:=s3.trans s4
 refine ⟨_,rfl,_,rfl,lV.mpr ⟨b,pl,m,ts,P,rfl,W2.same s24,by lia,tl,s24 _ _ epl,λtd H5 s5 htd =>?_⟩⟩
 have etd:td=du:=by rw[C8,htd,hdu]
 subst etd
 have s25:=s24.trans s5
 refine ⟨_,rfl,_,rfl,l6.mpr ⟨b,pl,m,ts,P,rfl,W2.same s25,by lia,tl,s25 _ _ epl,λH6 s6 cl =>?_,λz H6 F s6 ez rd nc =>?_⟩⟩
 ·have dt:td=true:=htd.mpr cl
  subst dt
  refine ⟨_,rfl,.bl true, "bool",_,true,rfl,.bl true,rfl,_,rfl,bH ⟨_,rfl,_,rfl,rfl,_,rfl,o5 rfl ?_⟩⟩
  refine ⟨_,rfl,rfl,_,rfl,rfl,_,rfl,o5 rfl ?_⟩
  exact ⟨_,rfl,rfl,_,rfl,bH ⟨⟨_,_,_,_,_,rfl⟩,u2.same (s25.trans s6)⟩⟩
 ·have df:td=false:=by
   cases td with
   | false=>rfl
   | true=>exact absurd (htd.mp rfl) nc
  subst df
  refine ⟨_,rfl,.bl false, "bool",_,true,rfl,.bl false,rfl,_,rfl,bH ⟨_,rfl,_,rfl,rfl,_,rfl,o5 rfl ?_⟩⟩
  refine ⟨_,rfl,rfl,_,rfl,rfl,_,rfl,o5 rfl ?_⟩
  have s26:=s25.trans s6
  refine ⟨_,rfl,rfl,_,rfl,cG ⟨_,rfl,_,rfl,fD.mpr ⟨b,pl,m,ts,P,rfl,W2.same s26,tl,s26 _ _ epl,λlw2 us2 H7 s7 W7 eu2 =>?_⟩⟩⟩
  have lF:F.length<=m:=by
   refine bA rd.2.1 λv hv =>?_
   rw[<- ir F] at hv
   obtain ⟨x,hx,rfl⟩:=Bh.mp hv
   obtain ⟨a,b,e,_,_,h3,h4⟩:=hV W x (Ce.mp (rd.2.2 x hx)).1
   rw[e]
   exact ⟨h3,h4⟩
  refine ⟨_,rfl,gP.mpr ⟨lw2,z,m,us2,F,rfl,W7,s7 _ _ ez,by lia,λb8 H8 s8 hb8 =>?_⟩⟩
  rw[eu2] at hb8
  rw[hb8.mpr rd]
  exact ⟨_,rfl,bH ⟨⟨_,_,_,_,_,rfl⟩,u2.same (s26.trans (s7.trans s8))⟩⟩
end
open PySem L2
inductive Con (ns:List (List Int)):Int->Int->Prop
 | refl (u:Int):Con ns u u
 | step {u v w:Int}:Con ns u v->Adj ns v w->Con ns u w
theorem Con.trans {ns:List (List Int)}{u v w:Int}(h:Con ns u v)(h2:Con ns v w):Con ns u w:=by
 induction h2 with
 | refl=>exact h
 | step _ a ih=>exact .step ih a
theorem Con.one {ns:List (List Int)}{u v:Int}(h:Adj ns u v):Con ns u v :=.step (.refl u) h
theorem Con.rng {m:Nat}{ns:List (List Int)}(O:Ok m ns){u v:Int}(h:Con ns u v)(hu:0<=u/\u<m):0<=v/\v<m:=by
 induction h with
 | refl=>exact hu
 | step _ a _=>exact (sT O a).2
theorem Con.closed {ns:List (List Int)}{u v:Int}(h:Con ns u v){R:Int->Prop}(hu:R u)(hc:∀x y,R x->Adj ns x y->R y):R v:=by
 induction h with
 | refl=>exact hu
 | step _ a ih=>exact hc _ _ ih a
theorem gQ:∀{l m:List Int},l.Pairwise (· < ·)->m.Pairwise (· < ·)->(∀x,x∈l↔x∈m)->l=m
 | [],[],_,_,_=>rfl
 | [],b :: m,_,_,h=>by have:=(h b).mpr Be;cases this
 | a :: l,[],_,_,h=>by have:=(h a).mp Be;cases this
 | a :: l,b :: m,h1,h2,h=>by
  obtain ⟨a1,l1⟩:=CA.mp h1
  obtain ⟨b1,m1⟩:=CA.mp h2
  have e:a=b:=by
   rcases Bs.mp ((h a).mp Be) with z | z
   ·exact z
   rcases Bs.mp ((h b).mpr Be) with y | y
   ·exact y.symm
   have:=a1 b y
   have:=b1 a z
   lia
  subst e
  rw[gQ l1 m1 λx=>⟨λhx =>?_,λhx =>?_⟩]
  ·rcases Bs.mp ((h x).mp (Br _ hx)) with z | z
   ·have:=a1 x hx;lia
   ·exact z
  ·rcases Bs.mp ((h x).mpr (Br _ hx)) with z | z
   ·have:=b1 x hx;lia
   ·exact z
theorem mh {o:List Int}(h:o.Pairwise (· <= ·))(nd:o.Nodup):o.Pairwise (· < ·):=by
 have:o.Pairwise (λa b=>a<=b/\a≠b):=Jn h nd
 exact this.imp λ{a b} z=>by lia
theorem rK (m:Nat):(rgI m).Pairwise (· < ·):=by
 unfold rgI
 rw[BW]
 exact Eh.imp λh=>by lia
open Classical in
noncomputable def eU (ns:List (List Int))(m:Nat)(u:Int):List Int:=(rgI m).filter λv=>decide (Con ns u v)
open Classical in
theorem gR {m:Nat}{ns:List (List Int)}(O:Ok m ns){u v:Int}(hu:0<=u/\u<m):v∈eU ns m u↔Con ns u v:=by
 unfold eU
 rw[Ce]
 constructor
 ·intro h;exact of_decide_eq_true h.2
 ·intro h
  have:=h.rng O hu
  exact ⟨bG.mpr this,decide_eq_true h⟩
theorem iz (ns:List (List Int))(m:Nat)(u:Int):(eU ns m u).Pairwise (· < ·):=(rK m).filter _
def gv (R:List Int):List (Key×V):=R.map λk=>(Sum.inl k,V.bl true)
theorem mi (v:Int):∀R:List Int,cJ (gv R) (Sum.inl v)=if v∈R then some (.bl true) else none
 | []=>by simp[gv,cJ]
 | k :: R=>by
  have ih:=mi v R
  unfold gv at *
  rw[BF]
  by_cases h:k=v
  ·subst h
   rw[fV rfl,if_pos Be]
  ·rw[fW (λe=>h (by injection e)),ih]
   by_cases hv:v∈R
   ·rw[if_pos hv,if_pos (Br _ hv)]
   ·rw[if_neg hv,if_neg (λz=>(Bs.mp z).elim (λy=>h y.symm) hv)]
theorem vf (v:Int)(R:List Int):(cJ (gv R) (Sum.inl v)).isSome=decide (v∈R):=by
 rw[mi]
 by_cases h:v∈R
 ·rw[if_pos h,decide_eq_true h];rfl
 ·rw[if_neg h,decide_eq_false h];rfl
theorem wV {v:Int}{R:List Int}(h:v∉R):putK (gv R) (Sum.inl v) (.bl true)=gv (R++[v]):=by
 rw[pO _ (by rw[mi,if_neg h])]
 unfold gv
 rw[A3]
 rfl
theorem mj (R:List Int):(gv R).length=R.length:=by unfold gv;rw[AN]
theorem vg (R:List Int):(gv R).map (·.1)=R.map Sum.inl:=by unfold gv;rw[DD];rfl
structure RY (ns:List (List Int))(m:Nat)(s:Int)(R Y:List Int):Prop where
 nd:R.Nodup
 st:s∈R
 con:∀v∈R,Con ns s v
 sub:∀v∈Y,v∈R
abbrev qj:Sp:=λvs H Q _=>∃(n:Addr) (m:Nat) (ns:List (List Int)) (os:List (Addr×List Int)) (s:Int),vs=[.ref n,.int s]/\fB H n m ns os/\Ok m ns/\m<=400/\0<=s/\s<m/\∀(l:Addr) (H':Hp),ay H H'->H' l=some (.lst ((eU ns m s).map V.int))->Q (.ref l) H'
@[irreducible] def kq:Sp:=qj
theorem dH {vs:List V}{H:Hp}{Q:VK}{E:XK}:kq vs H Q E↔qj vs H Q E:=by
 delta kq
 exact CW
section
variable  {P:Bi}{w:BQ}{K:A0}{mg:Str->Option AS}{base:Heap}{f:Addr}{fd:Cd}
theorem cf:aH ["near", "start", "reached", "ready", "place", "other"] ["near", "start"] (ak fz):=⟨rfl,rfl,rfl,by decide +kernel,rfl,by decide +kernel,by decide +kernel⟩
theorem yt (F:Fun K "reached_from" "reached_from" fz f fd)(mso:mg "sorted" = none):bB P w K mg base CX0 1 f fd ["near", "start"] kq:=by
 refine F.ok cf (λvs H Q E h =>?_) (λcdv A outer s0 H vs Q E hr h =>?_)
 ·obtain ⟨a,b,c,d,e,rfl,_⟩:=dH.mp h
  rfl
 obtain ⟨n,m,ns,os,s,rfl,N,O,m9,s0',sm,q⟩:=dH.mp h
 have hu:=yA hr
 refine ⟨_,af (au (i:=2) cf.nd rfl (Or.inl rfl) (sE (pU (pv 1) kA sD) rfl rfl (by simp) (by decide)))
  (af (au (i:=3) cf.nd rfl (Or.inl rfl) (bO (aa (pv 1) ab)))
  (af (fO BZ (kG (pv 3) (λ_=>rfl))
   (af (au (i:=4) cf.nd rfl (Or.inl rfl) (zu Bt Fh Fi zv (pv 3)))
   (ai (bR BZ rfl (dC (aA cv (pv 0) (pv 4) (λ_ _=>rfl))) (aJ (i:=5) cf.nd rfl (Or.inl rfl))
    (ai (a6 (nO (gJ hu (pv 5) (pv 2)))
     (af (sC hu (pv 2) (pv 5) kA rfl) (ai (bE (cz Bt BS BU a7 (pv 3) (aa (pv 5) ab))))) aK))))))
  (ai (aD (az (om hr.hd) rfl mso cC (aa (pv 2) ab)))))),?_⟩
 refine λd hd=>⟨_,rfl,ae,[(Sum.inl s,.bl true)],rfl,(by show 1<=15;decide),_,rfl,(by show 1<=Ba;decide),λy hy =>?_⟩
 have e1d:upd (upd H d (.dK [])) d (.dK (cO [] [(Sum.inl s,V.bl true)])) d=some (.dK (gv [s])):=ae
 have s1:ay H (upd (upd H d (.dK [])) d (.dK (cO [] [(Sum.inl s,V.bl true)]))):=λb o e=>by
  rw[aj (aq e hd),aj (aq e hd)];exact e
 have hy0:H y=none:=by
  cases e:H y with
  | none=>rfl
  | some o=>rw[s1 _ _ e] at hy;cases hy
 have ndy:d≠y:=aq e1d hy
 have e2d:=(ag hy (.lst [.int s])) _ _ e1d
 have e2y:upd (upd (upd H d (.dK [])) d (.dK (cO [] [(Sum.inl s,V.bl true)]))) y (.lst [.int s]) y=some (.lst (([s]:List Int).map V.int)):=ae
 have s2:=s1.trans (ag hy (.lst [.int s]))
 generalize upd (upd (upd H d (.dK [])) d (.dK (cO [] [(Sum.inl s,V.bl true)]))) y (.lst [.int s])=H2 at e2d e2y s2
 have rngR:∀{R Y:List Int},RY ns m s R Y->∀v∈R,0<=v/\v<m:=λI v hv=>(I.con v hv).rng O ⟨s0',sm⟩
 dsimp only[gY,y6]
 refine fP (λσ H'=>∃(c4 c5:Option V) (R Y:List Int),σ=[some (.ref n),some (.int s),some (.ref d),some (.ref y),c4,c5]/\ay H H'/\H' d=some (.dK (gv R))/\H' y=some (.lst (Y.map V.int))/\RY ns m s R Y/\2*(m-R.length)+Y.length<=2*m/\(∀u∈R,u∉Y->∀v,Adj ns u v->v∈R))
  (λ_ H'=>2*(m-lM H' d)+mF H' y) ⟨none,none,[s],[s],rfl,s2,e2d,e2y,⟨Cq.mpr ⟨by simp,CB⟩,Be,λv hv =>?_,λv hv=>hv⟩,by show 2*(m-1)+1<=2*m;lia,λu hu nu=>absurd hu nu⟩ ?_ (by rintro σ H Q Q' h ⟨v,e,k,t,q⟩;exact ⟨v,e,k,t,h _ _ q⟩)
 ·rw[AZ] at hv;subst hv;exact .refl _
 rintro σ H' ⟨c4,c5,R,Y,rfl,s',ed,ey,I,ly,cl⟩
 refine ⟨_,rfl, !(Y.map V.int).isEmpty,.inl ⟨_,SqL.of ey,rfl⟩,?_⟩
 have mu0:2*(m-lM H' d)+mF H' y=2*(m-R.length)+Y.length:=by
  unfold lM mF
  rw[ed,ey]
  dsimp only
  rw[mj,AN]
 rcases List.eq_nil_or_concat Y with hY | ⟨Y',p,hY⟩
 ·subst hY
  refine bH ⟨_,rfl,d,gv R,R,rfl,ed,vg R,λl out hl pm ps =>?_⟩
  have eo:out=eU ns m s:=gQ (mh ps (pm.nodup_iff.mpr I.nd)) (iz ns m s) λx=>by
   rw[pm.mem_iff,gR O ⟨s0',sm⟩]
   exact ⟨I.con x,λh=>h.closed I.st λx y hx a=>cl x hx (by simp) y a⟩
  subst eo
  exact q l _ (s'.trans (ag hl _)) ae
 ·rw[List.concat_eq_append] at hY
  subst hY
  have hne:(!(List.map V.int (Y'++[p])).isEmpty)=true:=by simp
  rw[hne]
  have pR:p∈R:=I.sub p (by simp)
  have pr:=rngR I p pR
  obtain ⟨pn,rfl⟩:∃k:Nat,p=k:=⟨p.toNat,by lia⟩
  refine cG ⟨_,rfl,.inl ⟨rfl,_,SqL.of ey⟩,y,_,.int pn,rfl,rfl,ey,?_,?_⟩
  ·rw[A3,AR];simp
  have dl:(List.map V.int (Y'++[(pn:Int)])).dropLast=Y'.map V.int:=by rw[A3];exact List.dropLast_concat
  rw[dl]
  have s3:ay H (upd H' y (.lst (Y'.map V.int))):=λb o e=>by rw[aj (aq e hy0)];exact s' _ _ e
  have ed3:upd H' y (.lst (Y'.map V.int)) d=some (.dK (gv R)):=by rw[aj ndy];exact ed
  have ey3:upd H' y (.lst (Y'.map V.int)) y=some (.lst (Y'.map V.int)):=ae
  generalize upd H' y (.lst (Y'.map V.int))=H3 at s3 ed3 ey3
  have N3:=N.same s3
  have pl:pn<os.length:=by rw[N.len];lia
  obtain ⟨uu,eu⟩:∃u,os[pn]? = some u:=⟨_,AQ pl⟩
  have rowu:=N3.row _ (A8 eu)
  have isu:=N.is pn _ eu
  rw[AR,Ca] at ly mu0
  refine ⟨_,rfl,_,rfl,n,_,(pn:Int),_,rfl,rfl,SqL.of N3.at',bP (by rw[A4,eu];rfl),uu.1,rfl,⟨_,SqL.of rowu⟩,iC (xs:=uu.2.map V.int)
   (λi σ H4=>∃(c5:Option V) (R4 Y4:List Int),σ=[some (.ref n),some (.int s),some (.ref d),some (.ref y),some (.int pn),c5]/\ay H H4/\H4 d=some (.dK (gv R4))/\H4 y=some (.lst (Y4.map V.int))/\RY ns m s R4 Y4/\(pn:Int)∈R4/\(∀u∈R4,u∉Y4->u≠pn->∀v,Adj ns u v->v∈R4)/\(∀v∈uu.2.take i,v∈R4)/\R4.length<=m/\2*(m-R4.length)+Y4.length+1<=2*(m-R.length)+(Y'.length+1))
   ⟨_,R,Y',rfl,s3,ed3,ey3,⟨I.nd,I.st,I.con,λv hv=>I.sub v (BD _ hv)⟩,pR,λu hu nu ne=>cl u hu (λz=>(A7.mp z).elim nu λz=>ne (by simpa using z)),λv hv=>by simp at hv,bA I.nd (rngR I),by lia⟩ (λi σ H4 _ z =>?_) ?_ ?_⟩
  ·obtain ⟨_,_,_,_,s4,_⟩:=z
   exact SqL.of ((N.same s4).row _ (A8 eu))
  ·rintro i x σ H4 hx ⟨c5,R4,Y4,rfl,s4,ed4,ey4,I4,p4,cl4,tk4,l4,mu4⟩
   rw[A4] at hx
   cases ho:uu.2[i]? with
   | none=>rw[ho] at hx;cases hx
   | some o =>
   rw[ho] at hx
   cases hx
   have tks:uu.2.take (i+1)=uu.2.take i++[o]:=by rw[BG,ho];rfl
   have oA:Adj ns pn o:=(isu o).mp (A8 ho)
   refine ⟨_,rfl,_,rfl,d,_,rfl,j5.k (k:=Sum.inl o) ed4,_,rfl,?_⟩
   rw[vf]
   by_cases hR:o∈R4
   ·rw[decide_eq_true hR]
    refine bH ⟨_,R4,Y4,rfl,s4,ed4,ey4,I4,p4,cl4,λv hv =>?_,l4,mu4⟩
    rw[tks] at hv
    rcases A7.mp hv with z | z
    ·exact tk4 v z
    ·rw[AZ] at z;subst z;exact hR
   ·rw[decide_eq_false hR]
    have I5:RY ns m s (R4++[o]) (Y4++[o]):=by
     refine ⟨ik I4.nd hR,BD _ I4.st,λv hv =>?_,λv hv =>?_⟩
     ·rcases A7.mp hv with z | z
      ·exact I4.con v z
      ·rw[AZ] at z;subst z;exact .step (I4.con _ p4) oA
     ·rcases A7.mp hv with z | z
      ·exact BD _ (I4.sub v z)
      ·exact Bn _ z
    have l5:=bA I5.nd (rngR I5)
    rw[AR,Ca] at l5
    refine cG ⟨_,rfl,_,rfl,d,_,rfl,qS.k (k:=Sum.inl o) ed4 (by rw[mj];exact aY (by lia)),?_⟩
    rw[wV hR]
    have ey5:upd H4 d (.dK (gv (R4++[o]))) y=some (.lst (Y4.map V.int)):=by rw[aj (C7 ndy)];exact ey4
    refine ⟨_,rfl,.inl ⟨rfl,_,SqL.of ey5⟩,_,rfl,y,_,_,rfl,rfl,ey5,(by rw[AN];exact aY (by lia)),_,R4++[o],Y4++[o],rfl,λb ob e =>?_,?_,?_,I5,BD _ p4,λu hu nu ne v a =>?_,λv hv =>?_,by rw[AR,Ca];exact l5,?_⟩
    ·rw[aj (aq e hy0),aj (aq e hd)];exact s4 _ _ e
    ·rw[aj ndy];exact ae
    ·rw[ae,A3];rfl
    ·rcases A7.mp hu with z | z
     ·exact BD _ (cl4 u z (λy=>nu (BD _ y)) ne v a)
     ·exact absurd (Bn _ z) nu
    ·rw[tks] at hv
     rcases A7.mp hv with z | z
     ·exact BD _ (tk4 v z)
     ·exact Bn _ z
    ·rw[AR,AR,Ca];lia
  ·rintro σ H4 ⟨c5,R4,Y4,rfl,s4,ed4,ey4,I4,p4,cl4,tk4,l4,mu4⟩
   rw[AN,Bb (AY _)] at tk4
   have lr:=bA I.nd (rngR I)
   refine ⟨⟨_,_,R4,Y4,rfl,s4,ed4,ey4,I4,?_,λu hu nu v a =>?_⟩,?_⟩
   ·lia
   ·by_cases e:u=pn
    ·subst e
     exact tk4 v ((isu v).mpr a)
    ·exact cl4 u hu nu e v a
   ·show 2*(m-lM H4 d)+mF H4 y<2*(m-lM H' d)+mF H' y
    rw[mu0]
    unfold lM mF
    rw[ed4,ey4]
    dsimp only
    rw[mj,AN]
    lia
end
open PySem L2
theorem gS {m:Nat}{E:List (List Int)}(O:Ok m E){u v:Int}:Adj E u v↔[v,u]∈E:=cS O
theorem ml {m:Nat}{E:List (List Int)}(O:Ok m E):Ok m (E.map swp):=λt ht=>by
 obtain ⟨x,hx,rfl⟩:=Bh.mp ht
 obtain ⟨a,b,e,h1,h2,h3,h4⟩:=O x hx
 rw[e]
 exact ⟨b,a,rfl,h3,h4,h1,h2⟩
theorem jg {m:Nat}{E:List (List Int)}(O:Ok m E){a b:Int}:[a,b]∈E.map swp↔[b,a]∈E:=by
 rw[Bh]
 constructor
 ·rintro ⟨t,ht,e⟩
  obtain ⟨x,y,e',_⟩:=O t ht
  rw[e'] at e
  have e:[y,x]=[a,b]:=e
  cases e
  rw[<- e'];exact ht
 ·intro h
  exact ⟨_,h,rfl⟩
theorem kr {m:Nat}{E:List (List Int)}(O:Ok m E){u v:Int}:Con E u v↔Con (E.map swp) v u:=by
 constructor
 ·intro h
  induction h with
  | refl=>exact .refl _
  | step _ a ih=>exact (Con.one ((gS (ml O)).mpr ((jg O).mpr ((gS O).mp a)))).trans ih
 ·intro h
  induction h with
  | refl=>exact .refl _
  | step _ a ih=>exact (Con.one ((gS O).mpr ((jg O).mp ((gS (ml O)).mp a)))).trans ih
def Bo (E:List (List Int))(u v:Int):Prop:=Con E u v/\Con (E.map swp) u v
theorem Bo.refl (E:List (List Int))(u:Int):Bo E u u:=⟨.refl _,.refl _⟩
theorem Bo.symm {m:Nat}{E:List (List Int)}(O:Ok m E){u v:Int}(h:Bo E u v):Bo E v u:=⟨(kr O).mpr h.2,(kr O).mp h.1⟩
theorem Bo.trans {E:List (List Int)}{u v w:Int}(h:Bo E u v)(h':Bo E v w):Bo E u w:=⟨h.1.trans h'.1,h.2.trans h'.2⟩
open Classical in
noncomputable def kn (E:List (List Int))(m:Nat)(u:Int):List Int:=(rgI m).filter λv=>decide (Bo E u v)
def Fs (E:List (List Int))(u:Int):Prop:=∀q:Int,0<=q->q<u->¬ Bo E u q
open Classical in
theorem gw {E:List (List Int)}{m:Nat}{u v:Int}:v∈kn E m u↔(0<=v/\v<m)/\Bo E u v:=by
 unfold kn
 rw[Ce,bG,decide_eq_true_iff]
theorem ku (E:List (List Int))(m:Nat)(u:Int):(kn E m u).Pairwise (· < ·):=(ja m).filter _
open Classical in
theorem AL {E:List (List Int)}{m:Nat}(O:Ok m E){u v:Int}(h:Bo E u v):kn E m u=kn E m v:=by
 unfold kn
 refine List.filter_congr λx _ =>?_
 rw[C8,decide_eq_true_iff,decide_eq_true_iff]
 exact ⟨λh'=>(h.symm O).trans h',λh'=>h.trans h'⟩
theorem jh {E:List (List Int)}{m:Nat}{u:Int}(u0:0<=u)(u1:u<m):∃p t,kn E m u=p :: t/\p<=u/\0<=p/\Bo E u p/\(p=u↔Fs E u):=by
 have hu:u∈kn E m u:=gw.mpr ⟨⟨u0,u1⟩,Bo.refl E u⟩
 have rs:=ku E m u
 cases h:kn E m u with
 | nil=>rw[h] at hu;cases hu
 | cons p t =>
  have hp:p∈kn E m u:=by rw[h];exact Be
  have mp:=gw.mp hp
  rw[h] at hu rs
  have le:∀x,x∈kn E m u->p<=x:=λx hx=>by
   rw[h] at hx
   rcases Bs.mp hx with y | y
   ·lia
   ·have:=(CA.mp rs).1 x y;lia
  refine ⟨p,t,rfl,le u (by rw[h];exact hu),mp.1.1,mp.2,?_⟩
  constructor
  ·intro e q q0 q1 b
   have:=le q (gw.mpr ⟨⟨q0,by lia⟩,b⟩)
   lia
  ·intro f
   have:=le u (by rw[h];exact hu)
   apply BA
   intro n
   exact f p mp.1.1 (by lia) mp.2
open Classical in
noncomputable def fH (E:List (List Int))(m i:Nat):List (List Int):=((rgI i).filter λu=>decide (Fs E u)).map (kn E m)
theorem qk (i:Nat):rgI (i+1)=rgI i++[(i:Int)]:=by
 unfold rgI
 rw[IJ,A3];rfl
open Classical in
theorem ql {E:List (List Int)}{m i:Nat}(h:Fs E (i:Int)):fH E m (i+1)=fH E m i++[kn E m i]:=by
 unfold fH
 rw[qk,Dt,A3]
 congr 1
 rw[Df (by exact decide_eq_true h)];rfl
open Classical in
theorem tP {E:List (List Int)}{m i:Nat}(h:¬ Fs E (i:Int)):fH E m (i+1)=fH E m i:=by
 unfold fH
 rw[qk,Dt,A3,Dg (by rw[decide_eq_false h];exact Bf)]
 exact B7 _
open Classical in
theorem qm {E:List (List Int)}{m i:Nat}(O:Ok m E)(hi:i<m):kn E m (i:Int)∈fH E m i↔¬ Fs E (i:Int):=by
 obtain ⟨p,t,e,le,p0,bo,hp⟩:=jh (E:=E) (m:=m) (u:=(i:Int)) (by lia) (by lia)
 unfold fH
 rw[Bh]
 constructor
 ·rintro ⟨q,hq,eq⟩ f
  obtain ⟨h1,h2⟩:=Ce.mp hq
  obtain ⟨q0,q1⟩:=bG.mp h1
  have:q∈kn E m (i:Int):=by rw[<- eq];exact gw.mpr ⟨⟨q0,by lia⟩,Bo.refl E q⟩
  exact f q q0 q1 (gw.mp this).2
 ·intro f
  have ne:p≠i:=λz=>f (hp.mp z)
  refine ⟨p,Ce.mpr ⟨bG.mpr ⟨p0,by lia⟩,decide_eq_true λq q0 q1 b =>?_⟩,(AL O bo).symm⟩
  have:q∈kn E m (i:Int):=gw.mpr ⟨⟨q0,by lia⟩,bo.trans b⟩
  rw[e] at this
  have rs:=ku E m (i:Int)
  rw[e] at rs
  rcases Bs.mp this with y | y
  ·lia
  ·have:=(CA.mp rs).1 q y;lia
theorem mq (E:List (List Int))(m i:Nat):(fH E m i).length<=i:=by
 unfold fH
 rw[AN]
 refine BL (DP _ _) ?_
 rw[dE];exact AY _
open Classical in
theorem yu (E:List (List Int))(m i:Nat)(hi:i<=m):(fH E m i).Pairwise px:=by
 unfold fH
 rw[BW]
 refine (((ja i).filter _).imp_of_mem λ{a b} ha hb h =>?_)
 obtain ⟨h1,h2⟩:=Ce.mp ha
 obtain ⟨h3,h4⟩:=Ce.mp hb
 obtain ⟨a0,a1⟩:=bG.mp h1
 obtain ⟨b0,b1⟩:=bG.mp h3
 obtain ⟨p,t,e,_,_,_,hp⟩:=jh (E:=E) (m:=m) (u:=a) a0 (by lia)
 obtain ⟨p',t',e',_,_,_,hp'⟩:=jh (E:=E) (m:=m) (u:=b) b0 (by lia)
 have ea:=hp.mpr (of_decide_eq_true h2)
 have eb:=hp'.mpr (of_decide_eq_true h4)
 show HT.lexLt (kn E m b) (kn E m a)=false
 rw[e,e',ea,eb,HT.cZ,if_neg (by lia)]
 exact decide_eq_false (by lia)
theorem yv {E:List (List Int)}{m i:Nat}(hi:i<=m):∀t∈fH E m i,t≠[]:=λt ht=>by
 unfold fH at ht
 obtain ⟨u,hu,rfl⟩:=Bh.mp ht
 obtain ⟨u0,u1⟩:=bG.mp (Ce.mp hu).1
 obtain ⟨p,t,e,_⟩:=jh (E:=E) (m:=m) (u:=u) u0 (by lia)
 rw[e];intro z;cases z
abbrev yS:Sp:=λvs H Q _=>∃(r:Addr) (m:Nat) (ts:List (Addr×List Int)),vs=[.ref r]/\Ow H r (m:Int) ts/\m<=200/\ts.length<=250/\∀(l:Addr) (us:List (Addr×List Int)) (H':Hp),ay H H'->H l=none->H' l=some (.lst (us.map λu =>.ref u.1))->Tus H' us->us.map (·.2)=fH (ts.map (·.2)) m m->Q (.ref l) H'
@[irreducible] def yx:Sp:=yS
theorem ji {vs:List V}{H:Hp}{Q:VK}{E:XK}:yx vs H Q E↔yS vs H Q E:=by
 delta yx
 exact CW
section
variable  {P:Bi}{w:BQ}{K:A0}{mg:Str->Option AS}{base:Heap}{f T:Addr}{fd:Cd}
theorem cD:aH ["web", "behind", "ahead", "knots", "place", "leading", "knot"] ["web"] (ak lE):=⟨rfl,rfl,rfl,by decide +kernel,rfl,by decide +kernel,by decide +kernel⟩
theorem eV:(["other", "leading"]:List Str).Nodup:=by decide +kernel
theorem vh (F:Fun K "knots_of" "knots_of" lE f fd)(B:Blt mg)(cOutLists:Cal P w K mg base 1 "out_lists" ["web"] nI)(cInLists:Cal P w K mg base 2 "in_lists" ["web"] uS)(cReachedFrom:Cal P w K mg base 1 "reached_from" ["near", "start"] kq):bB P w K mg base CX0 3 f fd ["web"] yx:=by
 refine F.ok cD (λvs H Q E h =>?_) (λcdv A outer s H vs Q E hr h =>?_)
 ·obtain ⟨_,_,_,rfl,_⟩:=ji.mp h
  rfl
 obtain ⟨r,m,ts,rfl,W,m2,tl,q⟩:=ji.mp h
 refine ⟨_,(@af _ _ _ _ _ (@au _ _ 1 _ _ _ _ cD.nd rfl (Or.inl rfl) (ax cOutLists hr (by decide) rfl (@aa _ _ _ _ _ (pv 0) ab rfl)) rfl (by first | exact .inl rfl | exact .inr rfl | assumption))
  (@af _ _ _ _ _ (@au _ _ 2 _ _ _ _ cD.nd rfl (Or.inl rfl) (ax cInLists hr (by decide) rfl (@aa _ _ _ _ _ (pv 0) ab rfl)) rfl (by first | exact .inl rfl | exact .inr rfl | assumption))
  (@af _ _ _ _ _ (@au _ _ 3 _ _ _ _ cD.nd rfl (Or.inl rfl) (@bO _ _ _ _ ab) rfl (by first | exact .inl rfl | exact .inr rfl | assumption))
  (@af _ _ _ _ _ (@bR _ _ _ _ _ _ _ _ BZ rfl (aQ rfl B.b_range (@aa _ _ _ _ _ (@aA _ _ _ _ _ _ _ aB (pv 0) ah (λ_ _=>rfl)) ab rfl)) (aJ (i:=4) cD.nd rfl (Or.inl rfl))
   (@af _ _ _ _ _ (@au _ _ 5 _ _ _ _ cD.nd rfl (Or.inr rfl) (ax cReachedFrom hr (by decide) rfl (@aa _ _ _ _ _ (pv 2) (@aa _ _ _ _ _ (pv 4) ab rfl) rfl)) rfl (by first | exact .inl rfl | exact .inr rfl | assumption))
   (@af _ _ _ _ _ (eZ (i:=6) ["other", "leading"] [none,some 5] rfl cD.nd rfl rfl (@dC _ _ _ _ (ax cReachedFrom hr (by decide) rfl (@aa _ _ _ _ _ (pv 1) (@aa _ _ _ _ _ (pv 4) ab rfl) rfl))) rfl (λ_ _ _ _ _=>(aJ (i:=0) eV rfl (Or.inl rfl))) (λ_ _ _ _ _=>(cN (av (js (K:=K)) (pv 0) (pv 1) rfl))) (λ_ _ _ _ _=>(pv 0)))
   (@ai _ _ _ (@a6 _ _ _ _ _ _ _ _ (av cy (@aA _ _ _ _ _ _ _ cv (pv 6) ah (λ_ _=>rfl)) (pv 4) (aE _)) (@ai _ _ _ (bE (cz Bt BS BU a7 (pv 3) (@aa _ _ _ _ _ (aG aM rfl B.b_tuple aX (@aa _ _ _ _ _ (pv 6) ab rfl)) ab rfl)))) aK)))) (λ_=>rfl))
  (@ai _ _ _ (@aD _ _ _ _ (pv 3))))))),?_⟩
 have O:=hV W
 have OD:=ml O
 have pr:∀t∈ts.map (·.2),∃x y:Int,t=[x,y]:=λt ht=>by
  obtain ⟨x,y,e,_⟩:=O t ht
  exact ⟨x,y,e⟩
 refine ⟨_,rfl,eM.mpr ⟨r,m,ts,rfl,W,m2,by lia,λbl H0 bs s0 eb lb hb =>?_⟩⟩
 have NB:fB H0 bl m ((ts.map (·.2)).map swp) (bs.zip ((Bw m).map λj:Nat=>outs (ts.map (·.2)) (j:Int))):=by
  have lr:((Bw m).map λj:Nat=>outs (ts.map (·.2)) (j:Int)).length=m:=by rw[AN,Dm]
  have get:∀(j:Nat) (u:Addr×List Int),(bs.zip ((Bw m).map λj:Nat=>outs (ts.map (·.2)) (j:Int)))[j]? = some u->bs[j]? = some u.1/\u.2=outs (ts.map (·.2)) (j:Int):=λj u e=>by
   obtain ⟨h1,h2⟩:=CI.mp e
   have hj:j<m:=by have:=(AW.mp h1).1;lia
   rw[A4,Ea hj] at h2
   exact ⟨h1,(BC h2).symm⟩
  refine ⟨?_,by rw[EU];lia,λu hu =>?_,λj u e x =>?_⟩
  ·rw[show (bs.zip ((Bw m).map λj:Nat=>outs (ts.map (·.2)) (j:Int))).map (λu=>V.ref u.1)=bs.map V.ref from ?_]
   ·exact eb
   ·have:(bs.zip ((Bw m).map λj:Nat=>outs (ts.map (·.2)) (j:Int))).map Prod.fst=bs:=Gu (by lia)
    exact (DD (f:=Prod.fst) (g:=V.ref)).symm.trans (by rw[this])
  ·obtain ⟨j,e⟩:=Bj.mp hu
   obtain ⟨h1,h2⟩:=get j u e
   rw[h2];exact hb j u.1 h1
  ·rw[(get j u e).2,gh pr,cS OD,jg O]
 refine ⟨_,rfl,gk.mpr ⟨r,m,ts,rfl,W.same s0,m2,tl,λn H1 as vs s1 en la lv hv hc hS =>?_⟩⟩
 obtain ⟨S,pS,lS,eS⟩:=hS
 have NA:fB H1 n m (ts.map (·.2)) (as.zip vs):=by
  refine ⟨?_,by rw[EU];lia,λu hu =>?_,λj u e x =>?_⟩
  ·rw[show (as.zip vs).map (λu=>V.ref u.1)=as.map V.ref from ?_]
   ·exact en
   ·have:(as.zip vs).map Prod.fst=as:=Gu (by lia)
    exact (DD (f:=Prod.fst) (g:=V.ref) (l:=as.zip vs)).symm.trans (by rw[this])
  ·obtain ⟨j,e⟩:=Bj.mp hu
   obtain ⟨h1,h2⟩:=CI.mp e
   exact hv j _ _ h1 h2
  ·obtain ⟨h1,h2⟩:=CI.mp e
   have hj:j<m:=by have:=(AW.mp h1).1;lia
   rw[eS,A4,Ea hj] at h2
   rw[<- BC h2]
   have pr:∀t∈S,∃x y:Int,t=[x,y]:=λt ht=>by
    obtain ⟨t',_,e⟩:=Bh.mp (pS.mem_iff.mp ht)
    exact ⟨_,_,e.symm⟩
   show x∈outs S (j:Int)↔_
   rw[gh pr,cS O,pS.mem_iff,Bh]
   constructor
   ·rintro ⟨t',ht,e⟩
    obtain ⟨x',y',rfl,_⟩:=O t' ht
    have e:[y',x']=[(j:Int),x]:=e
    cases e
    exact ht
   ·intro h
    exact ⟨_,h,rfl⟩
 have s01:=s0.trans s1
 refine ⟨(by show 0<=Ba;decide),λlk hlk =>?_⟩
 have hlk0:H lk=none:=s01.free hlk
 have g2:=ag hlk (.lst [])
 have ek:upd H1 lk (.lst []) lk=some (.lst (([]:List (Addr×List Int)).map λu =>.ref u.1)):=ae
 have s2:=s01.trans g2
 have NA2:=NA.same g2
 have NB2:=NB.same (s1.trans g2)
 have nf:∀{c:Addr} {o:HO},H1 c=some o->c≠lk:=λe z=>by rw[z,hlk] at e;cases e
 generalize upd H1 lk (.lst [])=H2 at g2 ek s2 NA2 NB2
 obtain ⟨t,e1,e2⟩:=(W.same s2).at'
 let W0:Nat->St->Hp->Prop:=λi σ H'=>∃(c4 c5 c6:Option V) (us:List (Addr×List Int)),σ=[some (.ref r),some (.ref bl),some (.ref n),some (.ref lk),c4,c5,c6]/\ay H1 H'/\H' lk=some (.lst (us.map λu =>.ref u.1))/\Tus H' us/\us.map (·.2)=fH (ts.map (·.2)) m i
 refine ⟨_,rfl,r,_,0,_,rfl,rfl,SqT.of e1,rfl,(m:Int),rfl,by lia,by lia,bh W0 ⟨_,_,_,[],rfl,g2,ek,λu hu=>(by cases hu),rfl⟩ ?_ ?_⟩
 ·rintro i σ H3 hi ⟨c4,c5,c6,us,rfl,s3,ek3,tu,eu⟩
  have hi':i<m:=by lia
  have ei:(0+(i:Int))=i:=by lia
  have lu:us.length<=i:=by have:=congrArg List.length eu;rw[AN] at this;rw[this];exact mq _ _ _
  refine ⟨_,rfl,_,rfl,dH.mpr ⟨n,m,_,_,0+(i:Int),rfl,NA.same s3,O,by lia,by lia,by lia,λll H4 s4 ell =>?_⟩⟩
  rw[ei] at ell
  have s34:=s3.trans s4
  refine ⟨_,rfl,_,rfl,dH.mpr ⟨bl,m,_,_,0+(i:Int),rfl,NB.same (s1.trans s34),OD,by lia,by lia,by lia,λlb' H5 s5 elb =>?_⟩⟩
  rw[ei] at elb
  have s35:=s34.trans s5
  have ell5:=s5 _ _ ell
  have cl:(eU ((ts.map (·.2)).map swp) m (i:Int)).length<=m:=bA ((iz _ _ _).imp λ{a b} h=>by lia) λv hv=>((gR OD ⟨by lia,by lia⟩).mp hv).rng OD ⟨by lia,by lia⟩
  refine ⟨lb',rfl,⟨_,SqL.of elb⟩,fe (xs:=(eU ((ts.map (·.2)).map swp) m (i:Int)).map V.int) (λj ys H'=>H'=H5/\ys=(((eU ((ts.map (·.2)).map swp) m (i:Int)).take j).filter λv=>decide (v∈eU (ts.map (·.2)) m (i:Int))).map V.int) ⟨rfl,rfl⟩ (by rw[AN];exact small (by lia)) (λj ys H' _ z=>by rw[z.1];exact SqL.of elb) ?_ ?_⟩
  ·rintro j x ys H6 hx hy ⟨eH,rfl⟩ R1 R0 r1 r0
   obtain ⟨v,ev,rfl⟩:=nE hx
   rw[eH]
   refine ⟨_,rfl,_,rfl,ll,_,rfl,.inl (SqL.of ell5),rfl,bj _,_,rfl,?_⟩
   rw[tK]
   refine bV (λz=>⟨_,rfl,r1 _ _ ⟨rfl,?_⟩⟩) λz=>r0 _ ⟨rfl,?_⟩
   ·rw[BG,ev,Dt,A3]
    rw[show (some v).toList.filter (λv=>decide (v∈eU (ts.map (·.2)) m (i:Int)))=[v] from Df z]
    rfl
   ·rw[BG,ev,Dt,A3]
    rw[show (some v).toList.filter (λv=>decide (v∈eU (ts.map (·.2)) m (i:Int)))=[] from Dg z]
    exact (B7 _).symm
  rintro ys H6 hy ⟨eH,rfl⟩ lc hlc
  rw[eH] at hlc ⊢
  rw[AN,Bb (AY _)]
  have eK:(eU ((ts.map (·.2)).map swp) m (i:Int)).filter (λv=>decide (v∈eU (ts.map (·.2)) m (i:Int)))=kn (ts.map (·.2)) m i:=by
   refine gQ ((iz _ _ _).filter _) (ku _ _ _) λv =>?_
   rw[Ce,decide_eq_true_iff,gR O ⟨by lia,by lia⟩,gR OD ⟨by lia,by lia⟩,gw]
   exact ⟨λh=>⟨h.1.rng OD ⟨by lia,by lia⟩,h.2,h.1⟩,λh=>⟨h.2.2,h.2.1⟩⟩
  rw[eK]
  have g6:=ag hlc (.lst ((kn (ts.map (·.2)) m i).map V.int))
  have ec:upd H5 lc (.lst ((kn (ts.map (·.2)) m i).map V.int)) lc=some (.lst ((kn (ts.map (·.2)) m i).map V.int)):=ae
  generalize upd H5 lc (.lst ((kn (ts.map (·.2)) m i).map V.int))=H6 at g6 ec
  have s36:=s35.trans g6
  have s46:=s4.trans (s5.trans g6)
  obtain ⟨p,tl',ep,_,_,_,hp⟩:=jh (E:=ts.map (·.2)) (m:=m) (u:=(i:Int)) (by lia) (by lia)
  refine ⟨_,rfl,lc,_,0,.int p,rfl,rfl,SqL.of ec,(by show atI _ ((0:Nat):Int)=_;exact bP (by rw[ep];rfl)),_,rfl,rfl,_,rfl,bV (λz =>?_) λz =>?_⟩
  ·have fs:=hp.mp (by have:=V.int.inj (of_decide_eq_true z);lia)
   have ek6:=s46 _ _ ek3
   refine ⟨_,rfl,.inl ⟨rfl,_,SqL.of ek6⟩,_,rfl,lc,_,rfl,.inl ⟨SqL.of ec,λtp htp =>?_⟩⟩
   have g7:=ag htp (.tup ((kn (ts.map (·.2)) m i).map V.int))
   have ek7:=g7 _ _ ek6
   have nlt:lk≠tp:=aq ek6 htp
   refine ⟨lk,_,_,rfl,rfl,ek7,by rw[AN];exact aY (by lia),?_⟩
   refine ⟨_,_,_,us++[(tp,kn (ts.map (·.2)) m i)],rfl,λc o e =>?_,?_,?_,?_⟩
   ·rw[aj (nf e)];exact g7 _ _ (s36 _ _ e)
   ·rw[ae,A3];rfl
   ·refine Tus.snoc (λu hu =>?_) ?_
    ·have:=g7 _ _ (s46 _ _ (tu u hu))
     rw[aj (iA this ek7 (by intro z;cases z))];exact this
    ·show upd _ lk _ tp=_
     rw[aj nlt.symm];exact ae
   ·rw[A3,eu,ql fs];rfl
  ·have nfs:¬ Fs (ts.map (·.2)) (i:Int):=λf=>z (decide_eq_true (by rw[hp.mpr f,ei]))
   exact ⟨_,_,_,us,rfl,s36,s46 _ _ ek3,tu.same s46,by rw[eu,tP nfs]⟩
 ·rintro σ H3 ⟨c4,c5,c6,us,rfl,s3,ek3,tu,eu⟩
  rw[B2] at eu
  exact ⟨_,rfl,q lk us H3 (s01.trans s3) hlk0 ek3 tu eu⟩
end
open PySem L2
theorem vi {E:List (List Int)}(nd:E.Nodup){F:List Int}{x:Int}{B:List Int}{i:Nat}(h:∀v,v∈B↔[x,v]∈E.take i/\v∉F)(nb:B.Nodup){v:Int}(e:E[i]? = some [x,v]):v∉B:=λhv=>by
 have h1:=((h v).mp hv).1
 obtain ⟨j,ej⟩:=Bj.mp h1
 have lj:=(AW.mp ej).1
 rw[B4] at lj
 rw[Ds (by lia)] at ej
 have:=(Gb (show j<E.length by lia) nd).mp (ej.trans e.symm)
 lia
abbrev wW:Sp:=λvs H Q _=>∃(r:Addr) (m:Nat) (ts:List (Addr×List Int)),vs=[.ref r]/\Ow H r (m:Int) ts/\m<=40/\ts.length<=250/\(ts.map (·.2)).Nodup/\∀(l:Addr) (os:List (Addr×List Int)) (H':Hp),ay H H'->H' l=some (.lst (os.map λu =>.ref u.1))->os.length=m->(∀u∈os,H' u.1=some (.lst (u.2.map V.int))/\u.2.length<=m)->(∀(j:Nat) u,os[j]? = some u->∀x,x∈u.2↔Con ((ts.map (·.2)).map swp) (j:Int) x)->Q (.ref l) H'
@[irreducible] def tQ:Sp:=wW
theorem jR {vs:List V}{H:Hp}{Q:VK}{E:XK}:tQ vs H Q E↔wW vs H Q E:=by
 delta tQ
 exact CW
section
variable  {P:Bi}{w:BQ}{K:A0}{mg:Str->Option AS}{base:Heap}{f T:Addr}{fd:Cd}
theorem eW:aH ["web", "reach", "place", "found", "at"] ["web"] (ak oq):=⟨rfl,rfl,rfl,by decide +kernel,rfl,by decide +kernel,by decide +kernel⟩
theorem fI:(["a", "b", "found", "at"]:List Str).Nodup:=by decide +kernel
theorem wX (F:Fun K "_law_reach" "_law_reach" oq f fd)(B:Blt mg):bB P w K mg base CX0 1 f fd ["web"] tQ:=by
 refine F.ok eW (λvs H Q E h =>?_) (λcdv A outer s H vs Q E hr h =>?_)
 ·obtain ⟨_,_,_,rfl,_⟩:=jR.mp h
  rfl
 obtain ⟨r,m,ts,rfl,W,m40,tl,ndE,q⟩:=jR.mp h
 refine ⟨_,(@af _ _ _ _ _ (@au _ _ 1 _ _ _ _ eW.nd rfl (Or.inl rfl) (@bO _ _ _ _ ab) rfl (by first | exact .inl rfl | exact .inr rfl | assumption))
  (@af _ _ _ _ _ (@bR _ _ _ _ _ _ _ _ BZ rfl (aQ rfl B.b_range (@aa _ _ _ _ _ (@aA _ _ _ _ _ _ _ aB (pv 0) ah (λ_ _=>rfl)) ab rfl)) (aJ (i:=2) eW.nd rfl (Or.inl rfl))
   (@af _ _ _ _ _ (@au _ _ 3 _ _ _ _ eW.nd rfl (Or.inr rfl) (@bO _ _ _ _ (@aa _ _ _ _ _ (pv 2) ab rfl)) rfl (by first | exact .inl rfl | exact .inr rfl | assumption))
   (@af _ _ _ _ _ (@au _ _ 4 _ _ _ _ eW.nd rfl (Or.inr rfl) ah rfl (by first | exact .inl rfl | exact .inr rfl | assumption))
   (@af _ _ _ _ _ (fO BZ (av kE (pv 4) (az aO rfl B.b_len cj (@aa _ _ _ _ _ (pv 3) ab rfl)) (aE _))
    (@af _ _ _ _ _ (bE (cz Bt PySem.F.slot_list_extend PySem.F.type_list_extend ud (pv 3) (@aa _ _ _ _ _ (bF ["a", "b", "found", "at"] [none,none,some 3,some 4] rfl (@cX _ _ _ _ (@aA _ _ _ _ _ _ _ aB (pv 0) ah (λ_ _=>rfl))) rfl (λ_ _ _ _ _=>(d9 (K:=K) (i:=0) (j:=1) fI rfl rfl (Or.inl rfl) (Or.inl rfl))) (λ_ _ _ _ _=>(cN (PW.pt (fK (av cy (pv 0) (@aA _ _ _ _ _ _ _ (iJ (K:=K)) (pv 2) (pv 3) (λ_ _=>rfl)) (aE _)) (dB (av (dY (K:=K)) (pv 1) (pv 2) rfl)))))) (λ_ _ _ _ _=>(pv 1))) ab rfl)))
    (@ai _ _ _ (@au _ _ 4 _ _ _ _ eW.nd rfl (Or.inr rfl) (@aL _ _ _ _ _ _ _ _ bS (pv 4) ah) rfl (by first | exact .inl rfl | exact .inr rfl | assumption)))))
   (@ai _ _ _ (bE (cz Bt BS BU a7 (pv 1) (@aa _ _ _ _ _ (pv 3) ab rfl))))))) (λ_=>rfl))
  (@ai _ _ _ (@aD _ _ _ _ (pv 1))))),?_⟩
 have O:=hV W
 have OD:=ml O
 obtain ⟨t,e1,e2⟩:=W.at'
 refine ⟨(by show 0<=Ba;decide),λlr hlr =>?_⟩
 have g0:=ag hlr (.lst [])
 have er:upd H lr (.lst []) lr=some (.lst (([]:List (Addr×List Int)).map λu =>.ref u.1)):=ae
 generalize upd H lr (.lst [])=H0 at g0 er
 let W0:Nat->St->Hp->Prop:=λi σ H'=>∃(c2 c3 c4:Option V) (os:List (Addr×List Int)),σ=[some (.ref r),some (.ref lr),c2,c3,c4]/\ay H H'/\H' lr=some (.lst (os.map λu =>.ref u.1))/\os.length=i/\(∀u∈os,H' u.1=some (.lst (u.2.map V.int))/\u.2.length<=m/\u.1≠lr)/\∀(j:Nat) u,os[j]? = some u->∀x,x∈u.2↔Con ((ts.map (·.2)).map swp) (j:Int) x
 refine ⟨_,rfl,r,_,0,_,rfl,rfl,SqT.of (g0 _ _ e1),rfl,(m:Int),rfl,by lia,by lia,bh W0 ⟨_,_,_,[],rfl,g0,er,rfl,λu hu=>(by cases hu),λj u e=>by simp at e⟩ ?_ ?_⟩
 ·rintro i σ H1 hi ⟨c2,c3,c4,os,rfl,s1,er1,lo,ho,hc⟩
  have hi':i<m:=by lia
  have ei:(0+(i:Int))=i:=by lia
  refine ⟨_,rfl,(by show 1<=Ba;decide),λlf hlf =>?_⟩
  have hlf0:H lf=none:=s1.free hlf
  have nfr:lr≠lf:=aq er1 hlf
  have nfo:∀u∈os,u.1≠lf:=λu hu=>aq (ho u hu).1 hlf
  have g2:=ag hlf (.lst [.int (0+(i:Int))])
  have ef:upd H1 lf (.lst [.int (0+(i:Int))]) lf=some (.lst (([(i:Int)]:List Int).map V.int)):=by rw[ae,ei];rfl
  have s2:=s1.trans g2
  have keep:∀H':Hp,(∀c o,c≠lf->H1 c=some o->H' c=some o)->H' lr=some (.lst (os.map λu =>.ref u.1))/\∀u∈os,H' u.1=some (.lst (u.2.map V.int))/\u.2.length<=m/\u.1≠lr:=λH' k=>⟨k _ _ nfr er1,λu hu=>⟨k _ _ (nfo u hu) (ho u hu).1,(ho u hu).2⟩⟩
  have k2:∀c o,c≠lf->H1 c=some o->upd H1 lf (.lst [.int (0+(i:Int))]) c=some o:=λc o n e=>by rw[aj n];exact e
  generalize upd H1 lf (.lst [.int (0+(i:Int))])=H2 at g2 ef s2 k2
  refine iY ?_
  dsimp only
  refine rn ?_
  refine iY ?_
  dsimp only
  refine rn ?_
  refine fP (λσ H'=>∃(at':Nat) (F:List Int),σ=[some (.ref r),some (.ref lr),some (.int (0+(i:Int))),some (.ref lf),some (.int (at':Int))]/\ay H H'/\(∀c o,c≠lf->H1 c=some o->H' c=some o)/\H' lf=some (.lst (F.map V.int))/\F.Nodup/\(i:Int)∈F/\(∀v∈F,Con ((ts.map (·.2)).map swp) (i:Int) v)/\at'<=F.length/\∀u∈F.take at',∀v,[u,v]∈ts.map (·.2)->v∈F) (λσ _=>match σ with | [_,_,_,_,some (.int a)]=>m-a.toNat | _=>0) ⟨0,[(i:Int)],rfl,s2,k2,ef,Cq.mpr ⟨Dw,CB⟩,Be,λv hv=>by rw[AZ.mp hv];exact .refl _,BX _,λu hu=>by simp at hu⟩ ?_ ?_
  ·rintro σ H3 ⟨at',F,rfl,s3,k3,eF,nF,pF,cF,la,cl⟩
   have lF:F.length<=m:=bA nF λv hv=>(cF v hv).rng OD ⟨by lia,by lia⟩
   have lm:(F.map V.int).length=F.length:=AN _
   refine ⟨_,rfl,_,rfl,lf,_,rfl,.inl (SqL.of eF),_,_,rfl,rfl,_,rfl,bV (λz =>?_) λz =>?_⟩
   ·have z:=of_decide_eq_true z
    rw[lm] at z
    have ha:at'<F.length:=by lia
    obtain ⟨x,ex⟩:∃x,F[at']? = some x:=⟨_,AQ ha⟩
    have mx:=A8 ex
    have e13:=s3 _ _ e1
    have e23:=s3 _ _ e2
    refine ⟨_,rfl,.inl ⟨rfl,_,SqL.of eF⟩,_,rfl,r,_,1,_,rfl,rfl,SqT.of e13,rfl,t,rfl,⟨_,SqT.of e23⟩,cT (ts:=ts.map λu:Addr×List Int=>(u.1,V.int (u.2.getD 0 0),V.int (u.2.getD 1 0))) (λi ys H'=>H'=H3/\∃B:List Int,ys=B.map V.int/\B.Nodup/\B.length<=i/\∀v,v∈B↔[x,v]∈(ts.map (·.2)).take i/\v∉F) (by decide) ⟨rfl,[],rfl,CB,AY _,λv=>⟨λh=>(by cases h),λh=>(by simp at h)⟩⟩ (by rw[AN];exact CK (small (by lia))) (λi ys H' _ k=>by rw[k.1];exact gO (W.same s3) e23) ?_ ?_⟩
    ·rintro l v ys H4 hv hy ⟨eH,B,rfl,nB,lB,hB⟩ R1 R0 r1 r0
     obtain ⟨u,hu,rfl⟩:=gN hv
     obtain ⟨a,b,e3,_⟩:=W.rng u (A8 hu)
     have g0:u.2.getD 0 0=a:=by rw[e3];rfl
     have g1:u.2.getD 1 0=b:=by rw[e3];rfl
     rw[eH,g0,g1]
     have eE:(ts.map (·.2))[l]? = some [a,b]:=by rw[A4,hu, <- e3];rfl
     have tk:(ts.map (·.2)).take (l+1)=(ts.map (·.2)).take l++[[a,b]]:=by rw[BG,eE];rfl
     have stay:(a≠x\/b∈F)->∀v,v∈B↔[x,v]∈(ts.map (·.2)).take (l+1)/\v∉F:=λc v=>by
      rw[hB v,tk,A7,AZ]
      constructor
      ·exact λh=>⟨.inl h.1,h.2⟩
      ·rintro ⟨h | h,h2⟩
       ·exact ⟨h,h2⟩
       ·cases h
        rcases c with c | c
        ·exact absurd rfl c
        ·exact absurd c h2
     refine ⟨_,rfl,_,rfl,_,rfl,lf,_,(at':Int),_,rfl,rfl,SqL.of eF,bP (by rw[A4,ex];rfl),rfl,_,rfl,bV (λz =>?_) λz =>?_⟩
     ·have z:a=x:=V.int.inj (of_decide_eq_true z)
      subst z
      refine ⟨_,rfl,_,rfl,lf,_,rfl,.inl (SqL.of eF),rfl,bj F,_,rfl,jJ (λnb =>?_) λnb =>?_⟩
      ·refine ⟨_,rfl,r1 _ _ ⟨rfl,B++[b],by rw[A3];rfl,ik nB (vi ndE hB nB eE),by rw[AR];show _+1<=_;lia,λv =>?_⟩⟩
       rw[A7,AZ,hB v,tk,A7,AZ]
       constructor
       ·rintro (h | h)
        ·exact ⟨.inl h.1,h.2⟩
        ·rw[h];exact ⟨.inr rfl,nb⟩
       ·rintro ⟨h | h,h2⟩
        ·exact .inl ⟨h,h2⟩
        ·cases h;exact .inr rfl
      ·exact r0 _ ⟨rfl,B,rfl,nB,by lia,stay (.inr nb)⟩
     ·have z:a≠x:=λe=>z (decide_eq_true (by rw[e]))
      exact bH (r0 _ ⟨rfl,B,rfl,nB,by lia,stay (.inl z)⟩)
    rintro ys H4 hy ⟨eH,B,rfl,nB,lB,hB⟩ lb hlb
    rw[eH] at hlb ⊢
    rw[AN,Bb (by rw[AN];exact AY _)] at hB
    rw[AN] at lB
    have g4:=ag hlb (.lst (B.map V.int))
    have eB:upd H3 lb (.lst (B.map V.int)) lb=some (.lst (B.map V.int)):=ae
    have eF4:=g4 _ _ eF
    have s4:=s3.trans g4
    generalize upd H3 lb (.lst (B.map V.int))=H4 at g4 eB eF4 s4
    refine ⟨lf,lb,_,_,rfl,rfl,eF4,eB,by rw[AN,AN];exact small (by lia),?_⟩
    refine ⟨_,rfl,_,_,rfl,rfl,?_⟩
    have nFB:(F++B).Nodup:=DE.mpr ⟨nF,nB,λa ha b hb e=>((hB b).mp hb).2 (e ▸ ha)⟩
    refine ⟨⟨at'+1,F++B,rfl,ay.bT s4 hlf0 _,λc o n e =>?_,?_,nFB,BD _ pF,λv hv =>?_,?_,λu hu v huv =>?_⟩,?_⟩
    ·rw[aj n];exact g4 _ _ (k3 c o n e)
    ·rw[ae,A3]
    ·rcases A7.mp hv with y | y
     ·exact cF v y
     ·exact .step (cF x mx) ((gS OD).mpr ((jg O).mpr ((hB v).mp y).1))
    ·rw[AR];lia
    ·rw[CG (by lia),BG,ex,A7] at hu
     by_cases c:v∈F
     ·exact BD _ c
     ·rcases hu with y | y
      ·exact absurd (cl u y v huv) c
      ·have:u=x:=by simpa using y
       subst this
       exact Bn _ ((hB v).mpr ⟨huv,c⟩)
    ·show m-((at':Int)+1).toNat<m-(at':Int).toNat
     lia
   ·have z:¬ at'<F.length:=λh=>z (decide_eq_true (by rw[lm];lia))
    have er3:=(keep H3 k3).1
    have ho3:=(keep H3 k3).2
    refine ⟨_,rfl,.inl ⟨rfl,_,SqL.of er3⟩,_,rfl,lr,_,_,rfl,rfl,er3,by rw[AN];exact aY (by lia),?_⟩
    rw[Bb (by lia)] at cl
    refine ⟨_,_,_,os++[(lf,F)],rfl,?_,?_,?_,λu hu =>?_,λj u e y =>?_⟩
    ·exact ay.bT s3 hlr _
    ·rw[ae,A3];rfl
    ·rw[AR,lo];rfl
    ·rcases A7.mp hu with y | y
     ·obtain ⟨h1,h2,h3⟩:=ho3 u y
      exact ⟨by rw[aj h3];exact h1,h2,h3⟩
     ·rw[AZ.mp y]
      exact ⟨by show upd H3 lr _ lf=_;rw[aj nfr.symm];exact eF,lF,nfr.symm⟩
    ·by_cases c:j<os.length
     ·rw[BK c] at e
      exact hc j u e y
     ·have:j=os.length:=by
       have:=(AW.mp e).1
       rw[AR] at this
       have:j<os.length+1:=this
       lia
      subst this
      rw[BN (AY _),GP] at e
      have:(lf,F)=u:=BC e
      rw[<- this,lo]
      exact ⟨cF y,λh=>h.closed (R:=(· ∈ F)) pF λa b ha hb=>cl a ha b ((jg O).mp ((gS OD).mp hb))⟩
  ·rintro σ H Q Q' h ⟨v,e,w,e',p,xs,h1,h2,i,j,h3,h4,b,h5,y⟩
   exact ⟨v,e,w,e',p,xs,h1,h2,i,j,h3,h4,b,h5,h _ _ y⟩
 ·rintro σ H1 ⟨c2,c3,c4,os,rfl,s1,er1,lo,ho,hc⟩
  rw[B2] at lo
  exact ⟨_,rfl,q lr os H1 s1 er1 lo (λu hu=>⟨(ho u hu).1,(ho u hu).2.1⟩) hc⟩
end
open PySem L2
abbrev wY:Sp:=λvs H Q _=>∃(r:Addr) (m:Nat) (ts:List (Addr×List Int)),vs=[.ref r]/\Ow H r (m:Int) ts/\m<=40/\ts.length<=250/\(ts.map (·.2)).Nodup/\∀(l:Addr) (us:List (Addr×List Int)) (H':Hp),ay H H'->H' l=some (.lst (us.map λu =>.ref u.1))->Tus H' us->us.map (·.2)=fH (ts.map (·.2)) m m->Q (.ref l) H'
@[irreducible] def tR:Sp:=wY
theorem gU {vs:List V}{H:Hp}{Q:VK}{E:XK}:tR vs H Q E↔wY vs H Q E:=by
 delta tR
 exact CW
section
variable  {P:Bi}{w:BQ}{K:A0}{mg:Str->Option AS}{base:Heap}{f T:Addr}{fd:Cd}
theorem gy:aH ["web", "reach", "knots", "place", "knot"] ["web"] (ak ot):=⟨rfl,rfl,rfl,by decide +kernel,rfl,by decide +kernel,by decide +kernel⟩
theorem dy:(["other", "reach", "place"]:List Str).Nodup:=by decide +kernel
theorem wZ (F:Fun K "_law_knots" "_law_knots" ot f fd)(B:Blt mg)(cLReach:Cal P w K mg base 1 "_law_reach" ["web"] tQ):bB P w K mg base CX0 2 f fd ["web"] tR:=by
 refine F.ok gy (λvs H Q E h =>?_) (λcdv A outer s H vs Q E hr h =>?_)
 ·obtain ⟨_,_,_,rfl,_⟩:=gU.mp h
  rfl
 obtain ⟨r,m,ts,rfl,W,m40,tl,ndE,q⟩:=gU.mp h
 refine ⟨_,(@af _ _ _ _ _ (@au _ _ 1 _ _ _ _ gy.nd rfl (Or.inr rfl) (ax cLReach hr (by decide) rfl (@aa _ _ _ _ _ (pv 0) ab rfl)) rfl (by first | exact .inl rfl | exact .inr rfl | assumption))
  (@af _ _ _ _ _ (@au _ _ 2 _ _ _ _ gy.nd rfl (Or.inl rfl) (@bO _ _ _ _ ab) rfl (by first | exact .inl rfl | exact .inr rfl | assumption))
  (@af _ _ _ _ _ (@bR _ _ _ _ _ _ _ _ BZ rfl (aQ rfl B.b_range (@aa _ _ _ _ _ (@aA _ _ _ _ _ _ _ aB (pv 0) ah (λ_ _=>rfl)) ab rfl)) (aJ (i:=3) gy.nd rfl (Or.inr rfl))
   (@af _ _ _ _ _ (@au _ _ 4 _ _ _ _ gy.nd rfl (Or.inl rfl) (aG aM rfl B.b_tuple aX (@aa _ _ _ _ _ (bF ["other", "reach", "place"] [none,some 1,some 3] rfl (aQ rfl B.b_range (@aa _ _ _ _ _ (@aA _ _ _ _ _ _ _ aB (pv 0) ah (λ_ _=>rfl)) ab rfl)) rfl (λ_ _ _ _ _=>(aJ (i:=0) dy rfl (Or.inl rfl))) (λ_ _ _ _ _=>(cN (PW.pt (fK (av (js (K:=K)) (pv 0) (@aA _ _ _ _ _ _ _ (iJ (K:=K)) (pv 1) (pv 2) (λ_ _=>rfl)) rfl) (dB (av (js (K:=K)) (pv 2) (@aA _ _ _ _ _ _ _ (iJ (K:=K)) (pv 1) (pv 0) (λ_ _=>rfl)) rfl)))))) (λ_ _ _ _ _=>(pv 0))) ab rfl)) rfl (by first | exact .inl rfl | exact .inr rfl | assumption))
   (@ai _ _ _ (@a6 _ _ _ _ _ _ _ _ (av (k8 (hu8 hr)) (pv 4) (pv 2) rfl) (@ai _ _ _ (bE (cz Bt BS BU a7 (pv 2) (@aa _ _ _ _ _ (pv 4) ab rfl)))) aK))) (λ_=>rfl))
  (@ai _ _ _ (@aD _ _ _ _ (az fh rfl B.b_sorted cC (@aa _ _ _ _ _ (pv 2) ab rfl))))))),?_⟩
 have O:=hV W
 have OD:=ml O
 refine ⟨_,rfl,jR.mpr ⟨r,m,ts,rfl,W,m40,tl,ndE,λlr os H0 s0 er lo ho hc =>?_⟩⟩
 obtain ⟨t,e1,e2⟩:=W.at'
 refine ⟨(by show 0<=Ba;decide),λlk hlk =>?_⟩
 have g1:=ag hlk (.lst [])
 have ek:upd H0 lk (.lst []) lk=some (.lst (([]:List (Addr×List Int)).map λu =>.ref u.1)):=ae
 generalize upd H0 lk (.lst [])=H1 at g1 ek
 let W0:Nat->St->Hp->Prop:=λi σ H'=>∃(c3 c4:Option V) (us:List (Addr×List Int)),σ=[some (.ref r),some (.ref lr),some (.ref lk),c3,c4]/\ay H0 H'/\H' lk=some (.lst (us.map λu =>.ref u.1))/\Tus H' us/\us.map (·.2)=fH (ts.map (·.2)) m i
 refine ⟨_,rfl,r,_,0,_,rfl,rfl,SqT.of (g1 _ _ (s0 _ _ e1)),rfl,(m:Int),rfl,by lia,by lia,bh W0 ⟨_,_,[],rfl,g1,ek,λu hu=>(by cases hu),rfl⟩ ?_ ?_⟩
 ·rintro i σ H2 hi ⟨c3,c4,us,rfl,s2,ek2,tu,eu⟩
  have hi':i<m:=by lia
  have ei:(0+(i:Int))=i:=by lia
  have lu:us.length<=i:=by have:=congrArg List.length eu;rw[AN] at this;rw[this];exact mq _ _ _
  have s02:=s0.trans s2
  have er2:=s2 _ _ er
  obtain ⟨ui,eui⟩:∃u,os[i]? = some u:=⟨_,AQ (by lia)⟩
  have hui:=s2 _ _ (ho ui (A8 eui)).1
  refine ⟨_,rfl,r,_,0,_,rfl,rfl,SqT.of (s02 _ _ e1),rfl,(m:Int),rfl,by lia,by lia,?_⟩
  rw[B2]
  let W1:Nat->List V->Hp->Prop:=λj ys H'=>H'=H2/\∃P:List Int,ys=P.map V.int/\P.Pairwise (· < ·)/\∀v:Int,v∈P↔(0<=v/\v<j)/\Bo (ts.map (·.2)) (i:Int) v
  refine cp W1 ⟨rfl,[],rfl,List.Pairwise.nil,λv=>⟨λh=>(by cases h),λh=>(by lia)⟩⟩ (small (by lia)) ?_ ?_
  ·rintro j ys H3 hj hy ⟨eH,P,rfl,rP,mP⟩ R1 R0 r1 r0
   rw[eH]
   have ej:(0+(j:Int))=j:=by lia
   rw[ej]
   obtain ⟨uj,euj⟩:∃u,os[j]? = some u:=⟨_,AQ (by lia)⟩
   have huj:=s2 _ _ (ho uj (A8 euj)).1
   have yes:Bo (ts.map (·.2)) (i:Int) (j:Int)↔(j:Int)∈ui.2/\(i:Int)∈uj.2:=by
    rw[hc i ui eui,hc j uj euj]
    exact ⟨λh=>⟨h.2,(kr O).mp h.1⟩,λh=>⟨(kr O).mpr h.2,h.1⟩⟩
   have no:¬ Bo (ts.map (·.2)) (i:Int) (j:Int)->∀v:Int,v∈P↔(0<=v/\v<((j+1:Nat):Int))/\Bo (ts.map (·.2)) (i:Int) v:=λn v=>by
    rw[mP v]
    constructor
    ·exact λh=>⟨⟨h.1.1,by lia⟩,h.2⟩
    ·rintro ⟨h1,h2⟩
     have:v≠j:=λe=>n (e ▸ h2)
     exact ⟨⟨h1.1,by lia⟩,h2⟩
   refine ⟨_,rfl,_,rfl,_,rfl,lr,_,_,_,rfl,rfl,SqL.of er2,(by rw[ei];exact bP (by rw[A4,eui];rfl)),ui.1,_,rfl,.inl (SqL.of hui),rfl,bj _,_,rfl,?_⟩
   rw[tK]
   refine bV (λz =>?_) λz =>?_
   ·have z:=of_decide_eq_true z
    refine ⟨_,rfl,_,rfl,_,rfl,lr,_,(j:Int),_,rfl,rfl,SqL.of er2,bP (by rw[A4,euj];rfl),uj.1,_,rfl,.inl (SqL.of huj),rfl,bj _,_,rfl,?_⟩
    rw[tK]
    refine bV (λz' =>?_) λz' =>?_
    ·have z':=of_decide_eq_true z'
     rw[ei] at z'
     have bo:=yes.mpr ⟨z,z'⟩
     refine ⟨_,rfl,r1 _ _ ⟨rfl,P++[(j:Int)],by rw[A3];rfl,Cn.mpr ⟨rP,CO _ _,λa ha b hb=>by rw[AZ.mp hb];exact ((mP a).mp ha).1.2⟩,λv =>?_⟩⟩
     rw[A7,AZ,mP v]
     constructor
     ·rintro (h | h)
      ·exact ⟨⟨h.1.1,by lia⟩,h.2⟩
      ·rw[h];exact ⟨⟨by lia,by lia⟩,bo⟩
     ·rintro ⟨h1,h2⟩
      by_cases c:v=j
      ·exact .inr c
      ·exact .inl ⟨⟨h1.1,by lia⟩,h2⟩
    ·refine r0 _ ⟨rfl,P,rfl,rP,no λb=>z' (decide_eq_true ?_)⟩
     rw[ei];exact (yes.mp b).2
   ·exact bH (r0 _ ⟨rfl,P,rfl,rP,no λb=>z (decide_eq_true (yes.mp b).1)⟩)
  rintro ys H3 hy ⟨eH,P,rfl,rP,mP⟩ lc hlc
  rw[eH] at hlc ⊢
  have eP:P=kn (ts.map (·.2)) m i:=gQ rP (ku _ _ _) λv=>by rw[mP v,gw]
  rw[eP]
  have g3:=ag hlc (.lst ((kn (ts.map (·.2)) m i).map V.int))
  refine ⟨lc,_,rfl,.inl ⟨SqL.of ae,λtp htp =>?_⟩⟩
  have g4:=g3.trans (ag htp (.tup ((kn (ts.map (·.2)) m i).map V.int)))
  have et:upd (upd H2 lc (.lst ((kn (ts.map (·.2)) m i).map V.int))) tp (.tup ((kn (ts.map (·.2)) m i).map V.int)) tp=some (.tup ((kn (ts.map (·.2)) m i).map V.int)):=ae
  generalize upd (upd H2 lc (.lst ((kn (ts.map (·.2)) m i).map V.int))) tp (.tup ((kn (ts.map (·.2)) m i).map V.int))=H4 at g4 et
  have ek4:=g4 _ _ ek2
  have tu4:=tu.same g4
  have s04:=s2.trans g4
  refine ⟨_,rfl,_,rfl,lk,tp,us,_,rfl,rfl,ek4,tu4,et,_,rfl,bV (λz =>?_) λz =>?_⟩
  ·have fs:Fs (ts.map (·.2)) (i:Int):=by
    apply BA
    intro n
    rw[eu,decide_eq_true ((qm O hi').mpr n)] at z
    cases z
   refine ⟨_,rfl,.inl ⟨rfl,_,SqL.of ek4⟩,_,rfl,lk,_,_,rfl,rfl,ek4,by rw[AN];exact aY (by lia),?_⟩
   refine ⟨_,_,us++[(tp,kn (ts.map (·.2)) m i)],rfl,ay.bT s04 hlk _,?_,?_,?_⟩
   ·rw[ae,A3];rfl
   ·refine Tus.snoc (λu hu =>?_) ?_
    ·rw[aj (iA (tu4 u hu) ek4 (by intro z;cases z))];exact tu4 u hu
    ·show upd _ lk _ tp=_
     rw[aj (iA et ek4 (by intro z;cases z))];exact et
   ·rw[A3,eu,ql fs];rfl
  ·have nfs:¬ Fs (ts.map (·.2)) (i:Int):=λf=>z (by
    rw[eu,decide_eq_false (λh=>(qm O hi').mp h f)];rfl)
   exact ⟨_,_,us,rfl,s04,ek4,tu4,by rw[eu,tP nfs]⟩
 ·rintro σ H2 ⟨c3,c4,us,rfl,s2,ek2,tu,eu⟩
  rw[B2] at eu
  refine ⟨_,rfl,lk,us,rfl,.inl (SqL.of ek2),λu hu=>⟨SqT.of (tu u hu),?_⟩,λl2 out hl2 pm so =>?_⟩
  ·refine yv (E:=ts.map (·.2)) (m:=m) (AY m) u.2 ?_
   rw[<- eu]
   exact Bh.mpr ⟨u,hu,rfl⟩
  ·refine q l2 out _ (s0.trans (s2.trans (ag hl2 _))) ae (λu hu=>(ag hl2 _) _ _ (tu u (pm.mem_iff.mp hu))) ?_
   rw[<- eu]
   exact kQ (pm.map (·.2)) (BW.mpr so) (by rw[eu];exact yu _ _ _ (AY _))
end
open PySem L2
def qo (K:A0):Sp:=λvs H Q _=>∃(a:Addr) (ns:List Int),vs=[.ref a]/\SqL K H a (ns.map V.int)/\ns.length<=63/\∀H',Q (.bl true) H'
theorem nL {K:A0}{vs:List V}{H:Hp}{Q:VK}{E:XK}:qo K vs H Q E↔∃(a:Addr) (ns:List Int),vs=[.ref a]/\SqL K H a (ns.map V.int)/\ns.length<=63/\∀H',Q (.bl true) H':=CW
section
variable  {P:Bi}{w:BQ}{K:A0}{mg:Str->Option AS}{base:Heap}{f T:Addr}{fd:Cd}
theorem gz:aH ["script", "k", "pot", "web", "found", "order", "turn", "told", "knots"] ["script"] (ak pZ):=⟨rfl,rfl,rfl,by decide +kernel,rfl,by decide +kernel,by decide +kernel⟩
theorem AM (F:Fun K "law" "law" pZ f fd)(B:Blt mg)(cLDeal:Cal P w K mg base 1 "_law_deal" ["script", "k"] (oB K))(cLDrawn:Cal P w K mg base 3 "_law_drawn" ["pot"] kj)(cRankedWeb:Cal P w K mg base 4 "ranked_web" ["web"] yo)(cKnotsOf:Cal P w K mg base 3 "knots_of" ["web"] yx)(cRanksRight:Cal P w K mg base 1 "ranks_right" ["web", "order"] tI)(cLBent:Cal P w K mg base 2 "_law_bent" ["pot", "order"] oR)(cLRankedRight:Cal P w K mg base 2 "_law_ranked_right" ["web", "found"] tM)(cLKnots:Cal P w K mg base 2 "_law_knots" ["web"] tR)(cLSetsRight:Cal P w K mg base 6 "_law_sets_right" ["pot", "web"] oS)(cLInRanks:Cal P w K mg base 1 "_law_in_ranks" ["web", "order"] tJ):bB P w K mg base CX0 7 f fd ["script"] (qo K):=by
 refine F.ok gz (λvs H Q E h =>?_) (λcdv A outer s H vs Q E hr h =>?_)
 ·obtain ⟨_,_,rfl,_⟩:=nL.mp h
  rfl
 obtain ⟨a,ns,rfl,hS,h63,q⟩:=nL.mp h
 have TD:∃t,PSs (nV CX0 P w K mg base ["script", "k", "pot", "web", "found", "order", "turn", "told", "knots"] "law" (ak pZ) f cdv A outer s H E).nox ((x8 ((cg pZ).getD 0 (.Pass ⟨0,0,0,0⟩))).drop 6) t/\∀(D:Ends) (p b z oa:Addr) (kk:Int) (m:Nat) (ts:List (Addr×List Int)) (os:List Int) (H0 Hs H1:Hp) (c6 c7 c8:Option V),ay H H0->H0 p=none->(∀{Hx:Hp},Bu 1 p Hs Hx->ay H0 Hx)->Bu 1 p Hs H1->Ow H1 b (m:Int) ts->m<=40->ts.length<=50->(ts.map (·.2)).Nodup->H1 oa=some (.tup (os.map V.int))->os.length<=40 →
   (∀σ' H',(∃c1 c2 c3 c4 c5 c6 c7 c8,σ'=[some (.ref a),c1,c2,c3,c4,c5,c6,c7,c8])->ay H H'->D.nx σ' H')->t D [some (.ref a),some (.int kk),some (.ref p),some (.ref b),some (.ref z),some (.ref oa),c6,c7,c8] H1:=by
  refine ⟨_,(@af _ _ _ _ _ (@bR _ _ _ _ _ _ _ _ BZ rfl (aQ rfl B.b_range (@aa _ _ _ _ _ ah ab rfl)) (aJ (i:=6) gz.nd rfl (Or.inl rfl))
    (@af _ _ _ _ _ (@au _ _ 7 _ _ _ _ gz.nd rfl (Or.inl rfl) (ax cRanksRight hr (by decide) rfl (@aa _ _ _ _ _ (pv 3) (@aa _ _ _ _ _ (pv 5) ab rfl) rfl)) rfl (by first | exact .inl rfl | exact .inr rfl | assumption))
    (@af _ _ _ _ _ (@a6 _ _ _ _ _ _ _ _ (PW.pt (fL (fM (eX (az ck rfl B.b_isinstance bN (@aa _ _ _ _ _ (pv 7) (@aa _ _ _ _ _ (gB (v :=.ty "bool") rfl B.b_bool sO rfl) ab rfl) rfl)))) (fJ (av mK (pv 7) (ax cLInRanks hr (by decide) rfl (@aa _ _ _ _ _ (pv 3) (@aa _ _ _ _ _ (pv 5) ab rfl) rfl)) (aE _))))) cA aK)
    (@ai _ _ _ (@au _ _ 5 _ _ _ _ gz.nd rfl (Or.inl rfl) (ax cLBent hr (by decide) rfl (@aa _ _ _ _ _ (pv 2) (@aa _ _ _ _ _ (pv 5) ab rfl) rfl)) rfl (by first | exact .inl rfl | exact .inr rfl | assumption))))) (λ_=>rfl))
   (@af _ _ _ _ _ (@au _ _ 8 _ _ _ _ gz.nd rfl (Or.inl rfl) (ax cKnotsOf hr (by decide) rfl (@aa _ _ _ _ _ (pv 3) ab rfl)) rfl (by first | exact .inl rfl | exact .inr rfl | assumption))
   (@af _ _ _ _ _ (@a6 _ _ _ _ _ _ _ _ (PW.pt (fL (fM (eX (az ck rfl B.b_isinstance bN (@aa _ _ _ _ _ (pv 8) (@aa _ _ _ _ _ (gB (v :=.ty "list") rfl B.b_list iX rfl) ab rfl) rfl)))) (fJ (av (sN hr) (pv 8) (ax cLKnots hr (by decide) rfl (@aa _ _ _ _ _ (pv 3) ab rfl)) (aE _))))) cA aK)
   (@af _ _ _ _ _ (bE (cz Bt BS BU a7 (pv 8) (@aa _ _ _ _ _ (@a9 _ _ _ _ _ ab) ab rfl)))
   (@ai _ _ _ (@a6 _ _ _ _ _ _ _ _ (PW.pt (fL (av (sN hr) (ax cKnotsOf hr (by decide) rfl (@aa _ _ _ _ _ (pv 3) ab rfl)) (ax cLKnots hr (by decide) rfl (@aa _ _ _ _ _ (pv 3) ab rfl)) (aE _)) (fJ (fM (eX (ax cLSetsRight hr (by decide) rfl (@aa _ _ _ _ _ (pv 2) (@aa _ _ _ _ _ (pv 3) ab rfl) rfl))))))) cA aK)))))),?_⟩
  intro D p b z oa kk m ts os H0 Hs H1 c6 c7 c8 sH hp0 fr u1 W hm tl nd eo lo nx
  let W0:Nat->St->Hp->Prop:=λi σ H'=>∃(oa:Addr) (os:List Int) (c6 c7:Option V),σ=[some (.ref a),some (.int kk),some (.ref p),some (.ref b),some (.ref z),some (.ref oa),c6,c7,c8]/\Bu 1 p H1 H'/\H' oa=some (.tup (os.map V.int))/\os.length<=40+i
  refine ⟨5,rfl,by decide,by decide,bh (n:=5) W0 ⟨oa,os,_,_,rfl,Bu.refl u1.pot,eo,lo⟩ ?_ ?_⟩
  ·rintro i σ H2 hi ⟨oa,os,c6,c7,rfl,u2,eo,lo⟩
   have i5:i<5:=by lia
   have W2:=W.bu u2 u1.pot
   refine ⟨_,rfl,_,rfl,jN.mpr ⟨b,oa,m,ts,os,rfl,W2,by lia,by lia,eo,by lia,λb1 H3 s3 hb1 =>?_⟩⟩
   refine ⟨_,rfl,.bl b1, "bool",_,true,rfl,.bl b1,rfl,_,rfl,bH ⟨_,rfl,?_⟩⟩
   refine ⟨_,rfl,_,rfl,jO.mpr ⟨b,oa,m,ts,os,rfl,W2.same s3,by lia,by lia,s3 _ _ eo,by lia,λb2 H4 s4 hb2 =>?_⟩⟩
   have eb:b1=b2:=by rw[C8,hb1,hb2]
   subst eb
   refine ⟨rfl,_,rfl,o5 rfl ?_⟩
   have s24:=s3.trans s4
   have u4:=u2.same s24
   refine ⟨_,rfl,_,rfl,iw.mpr ⟨p,oa,os,rfl,u4.pot,s24 _ _ eo,by lia,λob ws H5 u5 eo5 lw =>?_⟩⟩
   exact ⟨ob,ws,_,_,rfl,u4.trans u5,eo5,by lia⟩
  rintro σ H2 ⟨oa,os,c6,c7,rfl,u2,eo,lo⟩
  have W2:=W.bu u2 u1.pot
  have uS2:=u1.trans u2
  refine ⟨_,rfl,ji.mpr ⟨b,m,ts,rfl,W2,by lia,by lia,λl us H3 s3 hl el tu eu =>?_⟩⟩
  have W3:=W2.same s3
  refine ⟨_,rfl,.ref l, "list",_,true,rfl,.lst el,rfl,_,rfl,bH ?_⟩
  refine ⟨_,rfl,_,rfl,gU.mpr ⟨b,m,ts,rfl,W3,hm,by lia,nd,λl2 us2 H4 s4 el2 tu2 eu2 =>?_⟩⟩
  refine ⟨l,l2,us,us2,rfl,rfl,s4 _ _ el,el2,tu.same s4,tu2,_,rfl,?_⟩
  rw[decide_eq_true (show us.map (·.2)=us2.map (·.2) by rw[eu,eu2])]
  refine bH ?_
  have el4:=s4 _ _ el
  have lu:us.length<=40:=by have:=congrArg List.length eu;rw[AN] at this;rw[this];exact BL (mq _ _ _) hm
  refine ⟨_,rfl,.inl ⟨rfl,_,SqL.of el4⟩,(by show 0<=Ba;decide),λtz htz =>?_⟩
  have g5:=ag htz (.tup [])
  have el5:=g5 _ _ el4
  have s25:=s3.trans (s4.trans g5)
  have W5:=W2.same s25
  generalize upd H4 tz (.tup [])=H5 at g5 el5 s25 W5
  refine ⟨l,_,_,rfl,rfl,el5,by rw[AN];exact aY (by lia),?_⟩
  have np:l≠p:=λe=>by
   obtain ⟨_,_,e'⟩:=uS2.pot
   rw[e,e'] at hl;cases hl
  have hlS:Hs l=none:=i3 uS2 hl
  have u6:=(uS2.same s25).bT hlS np (.lst ((us.map λu=>V.ref u.1)++[.ref tz]))
  have W6:Ow (upd H5 l (.lst ((us.map λu=>V.ref u.1)++[.ref tz]))) b (m:Int) ts:=by
   have tp:∀x o,H5 x=some (.tup o)->upd H5 l (.lst ((us.map λu=>V.ref u.1)++[.ref tz])) x=some (.tup o):=λx o e=>by
    rw[aj (λz=>by rw[z,el5] at e;cases e)];exact e
   obtain ⟨y,f1,f2⟩:=W5.at'
   exact ⟨⟨y,tp _ _ f1,tp _ _ f2⟩,λu hu=>tp _ _ (W5.tup u hu),W5.rng⟩
  generalize upd H5 l (.lst ((us.map λu=>V.ref u.1)++[.ref tz]))=H6 at u6 W6
  refine ⟨_,rfl,ji.mpr ⟨b,m,ts,rfl,W6,by lia,by lia,λl3 us3 H7 s7 hl3 el3 tu3 eu3 =>?_⟩⟩
  have W7:=W6.same s7
  refine ⟨_,rfl,gU.mpr ⟨b,m,ts,rfl,W7,hm,by lia,nd,λl4 us4 H8 s8 el4 tu4 eu4 =>?_⟩⟩
  refine ⟨l3,l4,us3,us4,rfl,rfl,s8 _ _ el3,el4,tu3.same s8,tu4,_,rfl,?_⟩
  rw[decide_eq_true (show us3.map (·.2)=us4.map (·.2) by rw[eu3,eu4])]
  refine bH ?_
  have u8:=u6.same (s7.trans s8)
  refine ⟨_,rfl,_,rfl,iy.mpr ⟨p,b,m,ts,rfl,u8.pot,W7.same s8,hm,by lia,λH9 u9=>⟨_,rfl,bH ?_⟩⟩⟩
  exact nx _ _ ⟨_,_,_,_,_,_,_,_,rfl⟩ (sH.trans (fr (u8.trans u9)))
 obtain ⟨tD,pD,gD⟩:=TD
 refine ⟨_,(@af _ _ _ _ _ (@bR _ _ _ _ _ _ _ _ BZ rfl (aQ rfl B.b_range (@aa _ _ _ _ _ (az (tY rfl) rfl B.b_max zS (@aa _ _ _ _ _ ah (@aa _ _ _ _ _ (az (tZ rfl) rfl B.b_min oy (@aa _ _ _ _ _ (az aO rfl B.b_len cj (@aa _ _ _ _ _ (pv 0) ab rfl)) (@aa _ _ _ _ _ ah ab rfl) rfl)) ab rfl) rfl)) ab rfl)) (aJ (i:=1) gz.nd rfl (Or.inl rfl))
   (@af _ _ _ _ _ (@au _ _ 2 _ _ _ _ gz.nd rfl (Or.inl rfl) (ax cLDeal hr (by decide) rfl (@aa _ _ _ _ _ (pv 0) (@aa _ _ _ _ _ (pv 1) ab rfl) rfl)) rfl (by first | exact .inl rfl | exact .inr rfl | assumption))
   (@af _ _ _ _ _ (@au _ _ 3 _ _ _ _ gz.nd rfl (Or.inl rfl) (ax cLDrawn hr (by decide) rfl (@aa _ _ _ _ _ (pv 2) ab rfl)) rfl (by first | exact .inl rfl | exact .inr rfl | assumption))
   (@af _ _ _ _ _ (@au _ _ 4 _ _ _ _ gz.nd rfl (Or.inl rfl) (ax cRankedWeb hr (by decide) rfl (@aa _ _ _ _ _ (pv 3) ab rfl)) rfl (by first | exact .inl rfl | exact .inr rfl | assumption))
   (@af _ _ _ _ _ (@a6 _ _ _ _ _ _ _ _ (PW.pt (fL (fM (eX (ax cLRankedRight hr (by decide) rfl (@aa _ _ _ _ _ (pv 3) (@aa _ _ _ _ _ (pv 4) ab rfl) rfl)))) (fJ (av (x9 hr) (ax cRankedWeb hr (by decide) rfl (@aa _ _ _ _ _ (pv 3) ab rfl)) (pv 4) (aE _))))) cA aK)
   (@af _ _ _ _ _ (@au _ _ 5 _ _ _ _ gz.nd rfl (Or.inl rfl) (aG (pN hr.hd) rfl B.b_tuple aX (@aa _ _ _ _ _ (aG cI rfl B.b_range gg (@aa _ _ _ _ _ (@aA _ _ _ _ _ _ _ aB (pv 3) ah (λ_ _=>rfl)) ab rfl)) ab rfl)) rfl (by first | exact .inl rfl | exact .inr rfl | assumption))
   (@af _ _ _ _ _ (@a6 _ _ _ _ _ _ _ _ (av cy (@aA _ _ _ _ _ _ _ aB (pv 4) ah (λ_ _=>rfl)) kB (aE _)) (@ai _ _ _ (@au _ _ 5 _ _ _ _ gz.nd rfl (Or.inl rfl) (@aA _ _ _ _ _ _ _ aB (pv 4) ah (λ_ _=>rfl)) rfl (by first | exact .inl rfl | exact .inr rfl | assumption))) aK)
   pD)))))) (λ_=>rfl))
  (@ai _ _ _ (@aD _ _ _ _ kA))),?_⟩
 refine ⟨_,rfl,a,_,rfl,.inl hS,_,_,rfl,_,_,rfl,?_⟩
 obtain ⟨N,hN,N0,N1⟩:∃N:Int,(if (if (8:Int)<((ns.map V.int).length:Int) then (8:Int) else ((ns.map V.int).length:Int))>3 then (if (8:Int)<((ns.map V.int).length:Int) then (8:Int) else ((ns.map V.int).length:Int)) else 3)=N/\0<=N/\N<=63:=⟨_,rfl,by split <;> (try split) <;> lia,by rw[AN];split <;> (try split) <;> lia⟩
 rw[hN]
 refine ⟨N,rfl,by lia,by lia,bh (λ_ σ H'=>(∃c1 c2 c3 c4 c5 c6 c7 c8,σ=[some (.ref a),c1,c2,c3,c4,c5,c6,c7,c8])/\ay H H') ⟨⟨_,_,_,_,_,_,_,_,rfl⟩,ay.refl _⟩ ?_ (λσ H' _=>q _)⟩
 rintro k σ H0 hk ⟨⟨c1,c2,c3,c4,c5,c6,c7,c8,rfl⟩,s0⟩
 have hk':(k:Int)<63:=by lia
 refine ⟨_,rfl,_,rfl,ig.mpr ⟨a,ns,0+(k:Int),rfl,s0.seq hS,by lia,by lia,λx p hp =>?_⟩⟩
 have p0:Pt 1 (upd H0 p (.lst [.int x])) p:=⟨[x],rfl,ae⟩
 have b0:=Bu.refl p0
 have fr:∀{Hx:Hp},Bu 1 p (upd H0 p (.lst [.int x])) Hx->ay H0 Hx:=λu=>Bu.fresh hp u
 generalize upd H0 p (.lst [.int x])=Hs at p0 b0 fr
 refine ⟨_,rfl,gp.mpr ⟨p,rfl,p0,λb m ts H3 b3 W3 hm tl nd =>?_⟩⟩
 have O:=hV W3
 refine ⟨_,rfl,i9.mpr ⟨b,m,ts,rfl,W3,by lia,by lia,λz H4 s4 fw =>?_⟩⟩
 have W4:=W3.same s4
 have lF:∀{F:List Int},Rd (ts.map (·.2)) F->F.length<=m:=λ{F} rd=>by
  refine bA rd.2.1 λv hv =>?_
  rw[<- ir F] at hv
  obtain ⟨x,hx,rfl⟩:=Bh.mp hv
  obtain ⟨a,b,e,_,_,h3,h4⟩:=O x (rd.2.2 x hx)
  rw[e]
  exact ⟨h3,h4⟩
 refine ⟨_,rfl,_,rfl,jQ.mpr ⟨b,z,m,ts,rfl,W4,hm,by lia,?_,λH5 s5=>⟨_,rfl,bH ?_⟩⟩⟩
 ·rcases fw with h | ⟨c,F,h1,h2,rd,_⟩
  ·exact .inl h
  ·exact .inr ⟨c,F,h1,h2,rd,by have:=lF rd;lia⟩
 have W5:=W4.same s5
 refine ⟨_,rfl,i9.mpr ⟨b,m,ts,rfl,W5,by lia,by lia,λz2 H6 s6 fw2 =>?_⟩⟩
 have s46:=s5.trans s6
 have W6:=W5.same s6
 have b6:=b3.same (s4.trans s46)
 have fin:∀(σ':St) (H':Hp),(∃c1 c2 c3 c4 c5 c6 c7 c8,σ'=[some (.ref a),c1,c2,c3,c4,c5,c6,c7,c8])->ay H H'->(∃c1 c2 c3 c4 c5 c6 c7 c8,σ'=[some (.ref a),c1,c2,c3,c4,c5,c6,c7,c8])/\ay H H':=λ_ _ h1 h2=>⟨h1,h2⟩
 rcases fw with ⟨c,G,h1,h2,gr,st,lg⟩ | ⟨c,F,h1,h2,rd,rb⟩
 ·rcases fw2 with ⟨c',G',h1',h2',gr',st',lg'⟩ | ⟨c',F',h1',h2',rd',rb'⟩
  ·have eG:=gr.one st gr' st'
   subst eG
   refine ⟨_,rfl,z2,z,_,_,rfl,rfl,SqT.of h1',SqT.of (s46 _ _ h1),.cons (.inr (.inl ⟨_,rfl,rfl⟩)) (.cons (.inr (.inr (.inr ⟨c',c,_,_,rfl,rfl,.inl ⟨SqT.of h2',SqT.of (s46 _ _ h2)⟩,jb _⟩))) .nil),_,rfl,bH ?_⟩
   obtain ⟨t,e1,e2⟩:=W6.at'
   refine ⟨_,rfl,b,_,0,_,rfl,rfl,SqT.of e1,rfl,(m:Int),rfl,λra hra=>⟨ra,m,rfl,ae,by lia,λlt hlt =>?_⟩⟩
   have g7:=(ag hra (.rng 0 m)).trans (ag hlt (.tup ((Bw m).map λi=>V.int (i:Nat))))
   generalize upd (upd H6 ra (.rng 0 m)) lt (.tup ((Bw m).map λi=>V.int (i:Nat)))=H7 at g7
   have s47:=s46.trans g7
   refine ⟨_,rfl,z,_,0,_,rfl,rfl,SqT.of (s47 _ _ h1),rfl,rfl,_,rfl,?_⟩
   rw[decide_eq_true rfl]
   refine cG ⟨_,rfl,z,_,1,_,rfl,rfl,SqT.of (s47 _ _ h1),rfl,?_⟩
   exact gD _ p b z c _ m ts G H0 Hs H7 _ _ _ s0 hp fr (b6.same g7) (W6.same g7) hm tl nd (s47 _ _ h2) (by lia) fin
  ·exact absurd ⟨G,gr,lg⟩ (tG O rd')
 ·rcases fw2 with ⟨c',G',h1',h2',gr',st',lg'⟩ | ⟨c',F',h1',h2',rd',rb'⟩
  ·exact absurd ⟨G',gr',lg'⟩ (tG O rd)
  ·have eF:=rb.uniq rb'
   subst eF
   refine ⟨_,rfl,z2,z,_,_,rfl,rfl,SqT.of h1',SqT.of (s46 _ _ h1),.cons (.inr (.inl ⟨_,rfl,rfl⟩)) (.cons (.inr (.inr (.inr ⟨c',c,_,_,rfl,rfl,.inl ⟨SqT.of h2',SqT.of (s46 _ _ h2)⟩,jb _⟩))) .nil),_,rfl,bH ?_⟩
   obtain ⟨t,e1,e2⟩:=W6.at'
   refine ⟨_,rfl,b,_,0,_,rfl,rfl,SqT.of e1,rfl,(m:Int),rfl,λra hra=>⟨ra,m,rfl,ae,by lia,λlt hlt =>?_⟩⟩
   have g7:=(ag hra (.rng 0 m)).trans (ag hlt (.tup ((Bw m).map λi=>V.int (i:Nat))))
   have e7:upd (upd H6 ra (.rng 0 m)) lt (.tup ((Bw m).map λi=>V.int (i:Nat))) lt=some (.tup ((rgI m).map V.int)):=by rw[ae];unfold rgI;rw[DD];rfl
   generalize upd (upd H6 ra (.rng 0 m)) lt (.tup ((Bw m).map λi=>V.int (i:Nat)))=H7 at g7 e7
   have s47:=s46.trans g7
   refine ⟨_,rfl,z,_,0,_,rfl,rfl,SqT.of (s47 _ _ h1),rfl,rfl,_,rfl,?_⟩
   rw[decide_eq_false (by decide)]
   refine bH ?_
   exact gD _ p b z lt _ m ts (rgI m) H0 Hs H7 _ _ _ s0 hp fr (b6.same g7) (W6.same g7) hm tl nd e7 (by rw[dE];lia) fin
end
open PySem L2
theorem all_mk {l:PySem.W.OpenLaw}{w:BQ}{K:A0}{h:Heap}{mg:Str->Option AS}{fa:Addr}(X:K.In h)(G:h.Ns Cf mg)(hfa:mg "law" = some (.ref fa))
  (h1:bM K "reached_from" fz) (h2:bM K "out_lists" jA) (h3:bM K "in_lists" lA) (h4:bM K "cut_oneway" ia) (h5:bM K "turned_arrows" dM) (h6:bM K "round_form" ib) (h7:bM K "way_about" eJ) (h8:bM K "shortest_of" fY) (h9:bM K "first_ranks" fZ) (h10:bM K "has_ranks" jB) (h11:bM K "round_along" f6) (h12:bM K "round_by" lD) (h13:bM K "ranked_web" ic) (h14:bM K "ranks_right" f7) (h15:bM K "knots_of" lE) (h16:bM K "clears_oneway" dO) (h17:bM K "round_off" jC) (h18:bM K "_law_deal" lG) (h19:bM K "_law_take" q9) (h20:bM K "_law_one_way" lH) (h21:bM K "_law_some_places" fA) (h22:bM K "_law_less" rf) (h23:bM K "_law_round_free" f9) (h24:bM K "_law_is_round" jD) (h25:bM K "_law_reach" oq) (h26:bM K "_law_knots" ot) (h27:bM K "_law_drawn" ou) (h28:bM K "_law_first" ow) (h29:bM K "_law_ranked_right" dP) (h30:bM K "_law_in_ranks" jE) (h31:bM K "_law_bent" rh) (h32:bM K "_law_sets_right" gf) (h33:bM K "law" pZ)
  (y_all:CS K Cf "all" = some none) (y_bool:CS K Cf "bool" = some none) (y_int:CS K Cf "int" = some none) (y_isinstance:CS K Cf "isinstance" = some none) (y_len:CS K Cf "len" = some none) (y_list:CS K Cf "list" = some none) (y_max:CS K Cf "max" = some none) (y_min:CS K Cf "min" = some none) (y_range:CS K Cf "range" = some none) (y_set:CS K Cf "set" = some none) (y_sorted:CS K Cf "sorted" = some none) (y_tuple:CS K Cf "tuple" = some none) (y_ValueError:CS K Cf "ValueError" = some none)
  : ∃fd:Cd,(∀(s:A1) (v:AS),BindsTo s fd ⟨[v],[]⟩ [("script",v)])/\∀base:Heap,K.In base->base.Ns Cf mg->bB l.prog w K mg base CX0 7 fa fd ["script"] (qo K):=by
 obtain ⟨fl,od,an,sl,oc,kV,dc,pm,cd,ct,al,ll,cl,kl⟩:=h33
 have e:=hfa.symm.trans (Jg X G al)
 cases e
 have F33:=vG ll cl kl
 have z_all:=Ck X G y_all
 have z_bool:=Ck X G y_bool
 have z_int:=Ck X G y_int
 have z_isinstance:=Ck X G y_isinstance
 have z_len:=Ck X G y_len
 have z_list:=Ck X G y_list
 have z_max:=Ck X G y_max
 have z_min:=Ck X G y_min
 have z_range:=Ck X G y_range
 have z_set:=Ck X G y_set
 have z_sorted:=Ck X G y_sorted
 have z_tuple:=Ck X G y_tuple
 have z_ValueError:=Ck X G y_ValueError
 refine ⟨PySem.W.fnOf "law" "law" (dD pZ) (cg pZ) (ak pZ) .none kV dc pm an cd ct,λs v =>.of_eq rfl,λbase kb nb =>?_⟩
 have B:Blt mg:=⟨z_all,z_bool,z_int,z_isinstance,z_len,z_list,z_max,z_min,z_range,z_set,z_sorted,z_tuple,z_ValueError⟩
 have cLDeal:=h18.cal l.prog w base X G (λF=>ye F B) λ_ _ _ _ _ _ us hl=>match us,hl with | [_,_],_=>rfl
 have cLTake:=h19.cal l.prog w base X G (λF=>yf F B) λ_ _ _ _ _ _ us hl=>match us,hl with | [_,_],_=>rfl
 have cLOneWay:=h20.cal l.prog w base X G (λF=>uZ F B cLTake) λ_ _ _ _ _ _ us hl=>match us,hl with | [_,_,_],_=>rfl
 have cLDrawn:=h27.cal l.prog w base X G (λF=>wI F B cLOneWay cLTake) λ_ _ _ _ _ _ us hl=>match us,hl with | [_],_=>rfl
 have cOutLists:=h2.cal l.prog w base X G (λF=>rj F B) λ_ _ _ _ _ _ us hl=>match us,hl with | [_],_=>rfl
 have cTurnedArrows:=h5.cal l.prog w base X G (λF=>lJ F B) λ_ _ _ _ _ _ us hl=>match us,hl with | [_],_=>rfl
 have cInLists:=h3.cal l.prog w base X G (λF=>uU F B cOutLists cTurnedArrows) λ_ _ _ _ _ _ us hl=>match us,hl with | [_],_=>rfl
 have cFirstRanks:=h9.cal l.prog w base X G (λF=>oz F B cOutLists cInLists) λ_ _ _ _ _ _ us hl=>match us,hl with | [_],_=>rfl
 have cShortestOf:=h8.cal l.prog w base X G (λF=>oN F B) λ_ _ _ _ _ _ us hl=>match us,hl with | [_],_=>rfl
 have cRoundForm:=h6.cal l.prog w base X G (λF=>qg F B) λ_ _ _ _ _ _ us hl=>match us,hl with | [_],_=>rfl
 have cWayAbout:=h7.cal l.prog w base X G (λF=>rB F B) λ_ _ _ _ _ _ us hl=>match us,hl with | [_,_,_],_=>rfl
 have cRoundAlong:=h11.cal l.prog w base X G (λF=>oK F B cWayAbout) λ_ _ _ _ _ _ us hl=>match us,hl with | [_,_,_],_=>rfl
 have cRoundBy:=h12.cal l.prog w base X G (λF=>va F B cInLists cShortestOf cRoundForm cRoundAlong) λ_ _ _ _ _ _ us hl=>match us,hl with | [_,_],_=>rfl
 have cRankedWeb:=h13.cal l.prog w base X G (λF=>qi F B cFirstRanks cRoundBy) λ_ _ _ _ _ _ us hl=>match us,hl with | [_],_=>rfl
 have cReachedFrom:=h1.cal l.prog w base X G (λF=>yt F z_sorted) λ_ _ _ _ _ _ us hl=>match us,hl with | [_,_],_=>rfl
 have cKnotsOf:=h15.cal l.prog w base X G (λF=>vh F B cOutLists cInLists cReachedFrom) λ_ _ _ _ _ _ us hl=>match us,hl with | [_],_=>rfl
 have cRanksRight:=h14.cal l.prog w base X G (λF=>oP F B) λ_ _ _ _ _ _ us hl=>match us,hl with | [_,_],_=>rfl
 have cLBent:=h31.cal l.prog w base X G (λF=>yr F B cLTake) λ_ _ _ _ _ _ us hl=>match us,hl with | [_,_],_=>rfl
 have cLFirst:=h28.cal l.prog w base X G (λF=>wQ F B) λ_ _ _ _ _ _ us hl=>match us,hl with | [_],_=>rfl
 have cLRoundFree:=h23.cal l.prog w base X G (λF=>oG F B) λ_ _ _ _ _ _ us hl=>match us,hl with | [_],_=>rfl
 have cLIsRound:=h24.cal l.prog w base X G (λF=>rD F B) λ_ _ _ _ _ _ us hl=>match us,hl with | [_,_],_=>rfl
 have cLRankedRight:=h29.cal l.prog w base X G (λF=>me F B cLFirst cLRoundFree cLIsRound) λ_ _ _ _ _ _ us hl=>match us,hl with | [_,_],_=>rfl
 have cLReach:=h25.cal l.prog w base X G (λF=>wX F B) λ_ _ _ _ _ _ us hl=>match us,hl with | [_],_=>rfl
 have cLKnots:=h26.cal l.prog w base X G (λF=>wZ F B cLReach) λ_ _ _ _ _ _ us hl=>match us,hl with | [_],_=>rfl
 have cLSomePlaces:=h21.cal l.prog w base X G (λF=>mG F B cLTake) λ_ _ _ _ _ _ us hl=>match us,hl with | [_,_],_=>rfl
 have cHasRanks:=h10.cal l.prog w base X G (λF=>rq F B cFirstRanks) λ_ _ _ _ _ _ us hl=>match us,hl with | [_],_=>rfl
 have cCutOneway:=h4.cal l.prog w base X G (λF=>qd F B) λ_ _ _ _ _ _ us hl=>match us,hl with | [_,_],_=>rfl
 have cClearsOneway:=h16.cal l.prog w base X G (λF=>lY F B cHasRanks cCutOneway) λ_ _ _ _ _ _ us hl=>match us,hl with | [_,_],_=>rfl
 have cRoundOff:=h17.cal l.prog w base X G (λF=>rJ F B cCutOneway cRoundBy) λ_ _ _ _ _ _ us hl=>match us,hl with | [_,_],_=>rfl
 have cLLess:=h22.cal l.prog w base X G (λF=>yi F B) λ_ _ _ _ _ _ us hl=>match us,hl with | [_,_],_=>rfl
 have cLSetsRight:=h32.cal l.prog w base X G (λF=>oT F B cLSomePlaces cLRoundFree cClearsOneway cRoundOff cLLess cLIsRound) λ_ _ _ _ _ _ us hl=>match us,hl with | [_,_],_=>rfl
 have cLInRanks:=h30.cal l.prog w base X G (λF=>rH F B) λ_ _ _ _ _ _ us hl=>match us,hl with | [_,_],_=>rfl
 exact AM F33 B cLDeal cLDrawn cRankedWeb cKnotsOf cRanksRight cLBent cLRankedRight cLKnots cLSetsRight cLInRanks
theorem walk {l:PySem.W.OpenLaw}{q:Bi}{loose:List Str}{XP:(Str->Option AS)->Heap->Prop}{YP:BQ->Heap->Prop}{d:DefRec}{K:Params->A0}(hn:l.most=some 63)(hdf:d.params.defaults=[])
  (hY:∀(w:BQ) (h:Heap),YP w h->(K w.params).In h)
  (F:∀(w:BQ) (mg:Str->Option AS) (fa:Addr) (h:Heap),(K w.params).In h->h.Ns Cf mg->mg d.name=some (.ref fa) →
   ∃fd:Cd,(∀(s:A1) (u:AS),BindsTo s fd ⟨[u],[]⟩ [("script",u)])/\∀base:Heap,(K w.params).In base->base.Ns Cf mg->bB l.prog w (K w.params) mg base CX0 7 fa fd ["script"] (qo (K w.params))) :
  PySem.W.WalkO q loose XP YP l.row.toRowW d [] (λf vs=>PySem.call f vs) :=
 L2.xw (n:=63) (k:=7) (x := "script") (CX:=λ_=>CX0) (sp:=λw=>qo (K w.params)) hn (by decide) hdf ⟨rfl,by decide,by decide⟩ hY F (λ_ _ a ns hl _ hS=>⟨a,ns,rfl,hS,hl,λ_=>rfl⟩) λ_ _ _ _ _ z=>z
end K57
def PySem.W.Fast.tw4613869413699861104:Nat:=0
def PySem.W.Fast.tw11210439196852128965:Nat:=0
def PySem.W.Fast.tw11702676726909824769:Nat:=0
def PySem.W.Fast.tw10314411992283818273:Nat:=0
def PySem.W.Fast.tw1128012115562075924:Nat:=0
def PySem.W.Fast.tw4844662328557982181:Nat:=0
def PySem.W.Fast.tw4352828207230837459:Nat:=0
def PySem.W.Fast.tw15857031413793103364:Nat:=0
def PySem.W.Fast.tw129915202417158161:Nat:=0
def PySem.W.Fast.tw1837208886408024649:Nat:=0
def PySem.W.Fast.tw844397768021855602:Nat:=0
def PySem.W.Fast.tw11276723032425459538:Nat:=0
def PySem.W.Fast.tw4438939867513572654:Nat:=0
def PySem.W.Fast.tw3287922188119559810:Nat:=0
def PySem.W.Fast.tw13501544970707783668:Nat:=0
def PySem.W.Fast.tw11450688653238013921:Nat:=0
def PySem.W.Fast.tw5151605541634032777:Nat:=0
def PySem.W.Fast.tw1015057573034764346:Nat:=0
def PySem.W.Fast.tw780960892149068918:Nat:=0
def PySem.W.Fast.tw8364150403862649766:Nat:=0
def PySem.W.Fast.tw10337941148076184752:Nat:=0
def PySem.W.Fast.tw3575122098442052588:Nat:=0
def PySem.W.Fast.tw438995012934068475:Nat:=0
def PySem.W.Fast.tw1752712462189102636:Nat:=0
def PySem.W.Fast.tw14607818318191817259:Nat:=0
def PySem.W.Fast.tw11549341824642494224:Nat:=0
def PySem.W.Fast.tw15230270543779288917:Nat:=0
def PySem.W.Fast.tw14906457164409955629:Nat:=0
def PySem.W.Fast.tw297755392287783815:Nat:=0
def PySem.W.Fast.tw16189588283125963352:Nat:=0
def PySem.W.Fast.tw11485683073055789727:Nat:=0
def PySem.W.Fast.tw9359503278422320655:Nat:=0
def PySem.W.Fast.tw13396433355356623802:Nat:=0
def PySem.W.Fast.tw15250937077190345914:Nat:=0
def PySem.W.Fast.tw14487669894463121243:Nat:=0
def PySem.W.Fast.tw8942377977082604657:Nat:=0
def PySem.W.Fast.tw14617296877484453558:Nat:=0
def PySem.W.Fast.tw9426463767831020907:Nat:=0
def PySem.W.Fast.tw4485871033029831451:Nat:=0
def PySem.W.Fast.tw3258491438469136644:Nat:=0
def PySem.W.Fast.tw10040858743724136600:Nat:=0
def PySem.W.Fast.tw6451491852607464076:Nat:=0
def PySem.W.Fast.tw7963691110888920534:Nat:=0
def PySem.W.Fast.tw18396181681875102667:Nat:=0
def PySem.W.Fast.tw15101708028205770335:Nat:=0
def PySem.W.Fast.tw16650283519259594659:Nat:=0
def PySem.W.Fast.tw1979495518675550160:Nat:=0
def PySem.W.Fast.tw744449097309761742:Nat:=0
def PySem.W.Fast.tw18104733328476541022:Nat:=0
def PySem.W.Fast.tw3065886416710941950:Nat:=0
def PySem.W.Fast.tw14728897789750551450:Nat:=0
def PySem.W.Fast.tw15041804637568559128:Nat:=0
def PySem.W.Fast.tw1722687397733375994:Nat:=0
def PySem.W.Fast.tw11550315185194640809:Nat:=0
def PySem.W.Fast.tw4829814767331038173:Nat:=0
def PySem.W.Fast.tw7036782942984910588:Nat:=0
def PySem.W.Fast.tw12075052706285787570:Nat:=0
def PySem.W.Fast.tw6802037270117571264:Nat:=0
def PySem.W.Fast.tw2653410274308703945:Nat:=0
def PySem.W.Fast.tw13695108225968678986:Nat:=0
def PySem.W.Fast.tw14426925355172926681:Nat:=0
def PySem.W.Fast.tw16964137247294120199:Nat:=0
def PySem.W.Fast.tw10536593402969025521:Nat:=0
def PySem.W.Fast.tw16032618183711742850:Nat:=0
def PySem.W.Fast.tw10074515441514021413:Nat:=0
def PySem.W.Fast.tw7092874099288847953:Nat:=0
def PySem.W.Fast.tw14764615259490768587:Nat:=0
def PySem.W.Fast.tw12619229148731175634:Nat:=0
def PySem.W.Fast.tw8532337868977479848:Nat:=0
def PySem.W.Fast.tw2005231354485087249:Nat:=0
def PySem.W.Fast.tw8059002332236841760:Nat:=0
def PySem.W.Fast.tw15712336863495320791:Nat:=0
def PySem.W.Fast.tw10821000097801617188:Nat:=0
def PySem.W.Fast.tw15250538951086856322:Nat:=0
def PySem.W.Fast.tw15098917643733301199:Nat:=0
def PySem.W.Fast.tw13889268218917065148:Nat:=0
def PySem.W.Fast.tw7561259196735648930:Nat:=0
def PySem.W.Fast.tw8257124113910507983:Nat:=0
def PySem.W.Fast.tw9732854742245056240:Nat:=0
def PySem.W.Fast.tw13400623676411609038:Nat:=0
def PySem.W.Fast.tw6412954952828638825:Nat:=0
def PySem.W.Fast.tw16484314003804136009:Nat:=0
def PySem.W.Fast.tw15054471124831333850:Nat:=0
def PySem.W.Fast.tw8978113040053551358:Nat:=0
def PySem.W.Fast.tw8955991930702814369:Nat:=0
def PySem.W.Fast.tw12717171532890135688:Nat:=0
def PySem.W.Fast.tw13574898435464719725:Nat:=0
def PySem.W.Fast.tw12239489238140111702:Nat:=0
def PySem.W.Fast.tw12194347482394625018:Nat:=0
def PySem.W.Fast.tw4319271318820504958:Nat:=0
def PySem.W.Fast.tw9911073715018691701:Nat:=0
def PySem.W.Fast.tw16670554600431582140:Nat:=0
def PySem.W.Fast.tw673228697665680659:Nat:=0
def PySem.W.Fast.tw9159503273688616543:Nat:=0
def PySem.W.Fast.tw8662146794789616366:Nat:=0
def PySem.W.Fast.tw10248281679535026043:Nat:=0
def PySem.W.Fast.tw12186547399374389720:Nat:=0
def PySem.W.Fast.tw9334917891526652517:Nat:=0
def PySem.W.Fast.tw13457081524743870307:Nat:=0
def PySem.W.Fast.tw4791300457137750499:Nat:=0
def PySem.W.Fast.tw13748387500615631025:Nat:=0
def PySem.W.Fast.tw13154147517083418915:Nat:=0
def PySem.W.Fast.tw7854745835786442287:Nat:=0
def PySem.W.Fast.tw9443937318918037809:Nat:=0
def PySem.W.Fast.tw7734745099898251439:Nat:=0
def PySem.W.Fast.tw8129020628715922060:Nat:=0
def PySem.W.Fast.tw6467372259359855541:Nat:=0
def PySem.W.Fast.tw5430028757763130701:Nat:=0
def PySem.W.Fast.tw3677566678179582619:Nat:=0
def PySem.W.Fast.tw8044337572888820943:Nat:=0
def PySem.W.Fast.tw14871049217948251758:Nat:=0
def PySem.W.Fast.tw13168618843732230390:Nat:=0
def PySem.W.Fast.tw8197870590950597669:Nat:=0
def PySem.W.Fast.tw3102823878635501612:Nat:=0
def PySem.W.Fast.tw10595590462925357360:Nat:=0
def PySem.W.Fast.tw13643104684932943077:Nat:=0
def PySem.W.Fast.tw17956528521134655928:Nat:=0
def PySem.W.Fast.tw1284529359827986648:Nat:=0
def PySem.W.Fast.tw8545392490345946938:Nat:=0
def PySem.W.Fast.tw16444648758166067217:Nat:=0
open PySem PySem.W PyProof.Rows
set_option maxRecDepth 100000 in
set_option maxHeartbeats 0 in
theorem PySem.Challenge.cw_ringfell_k57_ranks_and_knots_holds : PySem.Challenge.rw_ringfell_k57_ranks_and_knots.Holds := by
 w_on;o_law;k_head;(case hw=>w_witness2)
 k_fill
 refine K57.walk (l:=PySem.Challenge.rw_ringfell_k57_ranks_and_knots) rfl rfl (λw h Y=>PySem.W.kIn_of Y) ?F
 case F =>
  intro w mg fa h KX G hmg
  refine' K57.all_mk KX G hmg ?_ ?_ ?_ ?_ ?_ ?_ ?_ ?_ ?_ ?_ ?_ ?_ ?_ ?_ ?_ ?_ ?_ ?_ ?_ ?_ ?_ ?_ ?_ ?_ ?_ ?_ ?_ ?_ ?_ ?_ ?_ ?_ ?_ ?_ ?_ ?_ ?_ ?_ ?_ ?_ ?_ ?_ ?_ ?_ ?_ ?_
  all_goals first | k_is | (refine' L2.bM.mk ?a ?l ?c ?k;(case a=>k_is);(case l=>k_is);(case c=>k_is);(case k=>k_is))
