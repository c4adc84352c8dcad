import PyProof.Rows.All
import Wide.All
import OpenK.AllK
import Wide.FinOn
import Lean
import PySem.Challenge.RW_patchkin_k13_whole_no_line_lost
set_option Elab.async false
set_option linter.all false
set_option maxRecDepth 100000
set_option maxHeartbeats 0
theorem Ob:type_of% @List.length_map:=@List.length_map
theorem TH:type_of% @List.getElem?_eq_getElem:=@List.getElem?_eq_getElem
theorem TN:type_of% @PySem.wpAny_bind:=@PySem.wpAny_bind
theorem WO:type_of% @List.mem_singleton:=@List.mem_singleton
theorem WR:type_of% @Nat.le_refl:=@Nat.le_refl
theorem WV:type_of% @decide_eq_true:=@decide_eq_true
theorem WW:type_of% @List.mem_of_getElem?:=@List.mem_of_getElem?
theorem XF:type_of% @List.length_append:=@List.length_append
theorem XH:type_of% @List.mem_cons:=@List.mem_cons
theorem YO:type_of% @List.mem_map_of_mem:=@List.mem_map_of_mem
theorem ZT:type_of% @List.filter_cons_of_pos:=@List.filter_cons_of_pos
theorem ZU:type_of% @List.mem_append:=@List.mem_append
theorem ZW:type_of% @decide_eq_false:=@decide_eq_false
theorem ZY:type_of% @List.length_cons:=@List.length_cons
theorem aaa:type_of% @List.mem_cons_of_mem:=@List.mem_cons_of_mem
theorem aab:type_of% @List.filter_cons_of_neg:=@List.filter_cons_of_neg
theorem aac:type_of% @if_neg:=@if_neg
theorem aad:type_of% @List.mem_append_left:=@List.mem_append_left
theorem aae:type_of% @Bool.false_ne_true:=@Bool.false_ne_true
theorem aaf:type_of% @PySem.wpAny_pure:=@PySem.wpAny_pure
theorem aag:type_of% @List.size_toArray:=@List.size_toArray
theorem aah:type_of% @of_decide_eq_true:=@of_decide_eq_true
theorem aai:type_of% @Nat.le_trans:=@Nat.le_trans
theorem aaj:type_of% @PySem.Heap.get?_push_of_some:=@PySem.Heap.get?_push_of_some
theorem aak:type_of% @PySem.Paired.length:=@PySem.Paired.length
theorem aal:type_of% @List.mem_filter:=@List.mem_filter
theorem aam:type_of% @List.getElem?_map:=@List.getElem?_map
theorem aan:type_of% @if_pos:=@if_pos
theorem aao:type_of% @PySem.W.mg_of:=@PySem.W.mg_of
theorem aap:type_of% @List.mem_cons_self:=@List.mem_cons_self
theorem aaq:type_of% @List.take_length:=@List.take_length
theorem aar:type_of% @PySem.PassesOwn.never:=@PySem.PassesOwn.never
theorem aas:type_of% @PySem.Heap.lt_size:=@PySem.Heap.lt_size
theorem aat:type_of% @List.map_cons:=@List.map_cons
theorem aau:type_of% @List.map_append:=@List.map_append
theorem aav:type_of% @PySem.boot_len:=@PySem.boot_len
theorem aaw:type_of% @PySem.sizeLine_eq:=@PySem.sizeLine_eq
theorem aax:type_of% @PySem.Heap.get?_push_size:=@PySem.Heap.get?_push_size
theorem aay:type_of% @List.mem_append_right:=@List.mem_append_right
theorem aaz:type_of% @Option.some.inj:=@Option.some.inj
theorem aaA:type_of% @List.mem_map:=@List.mem_map
theorem aaB:type_of% @Nat.lt_of_lt_of_le:=@Nat.lt_of_lt_of_le
theorem aaC:type_of% @List.length_take:=@List.length_take
theorem aaD:type_of% @List.Sublist.refl:=@List.Sublist.refl
theorem aaE:type_of% @List.flatMap_cons:=@List.flatMap_cons
theorem aaF:type_of% @PySem.F.plainAttrs_list:=@PySem.F.plainAttrs_list
theorem aaG:type_of% @List.mem_iff_getElem?:=@List.mem_iff_getElem?
theorem aaH:type_of% @List.filter_append:=@List.filter_append
theorem aaI:type_of% @Nat.zero_le:=@Nat.zero_le
theorem aaJ:type_of% @Nat.ne_of_lt:=@Nat.ne_of_lt
theorem aaK:type_of% @List.length_eq_zero_iff:=@List.length_eq_zero_iff
theorem aaL:type_of% @Array.length_toList:=@Array.length_toList
theorem aaM:type_of% @List.append_nil:=@List.append_nil
theorem aaN:type_of% @List.length_filter_le:=@List.length_filter_le
theorem aaO:type_of% @List.append_assoc:=@List.append_assoc
theorem aaP:type_of% @List.drop_eq_getElem_cons:=@List.drop_eq_getElem_cons
theorem aaQ:type_of% @congrArg:=@congrArg
theorem aaR:type_of% @Bool.false_eq_true:=@Bool.false_eq_true
theorem aaS:type_of% @PySem.F.slot_list_append:=@PySem.F.slot_list_append
theorem aaT:type_of% @PySem.F.type_list_append:=@PySem.F.type_list_append
theorem aaU:type_of% @PySem.W.mg_none_of:=@PySem.W.mg_none_of
theorem aaV:type_of% @List.filter_sublist:=@List.filter_sublist
theorem aaW:type_of% @List.nodup_cons:=@List.nodup_cons
theorem aaX:type_of% @PyProof.Rows.boot_isinstance:=@PyProof.Rows.boot_isinstance
theorem aaY:type_of% @Array.getElem?_eq_getElem:=@Array.getElem?_eq_getElem
theorem aaZ:type_of% @List.nodup_append:=@List.nodup_append
theorem aa0:type_of% @List.mem_flatMap:=@List.mem_flatMap
theorem aa1:type_of% @PyProof.Rows.callWith_type1:=@PyProof.Rows.callWith_type1
theorem aa2:type_of% @List.filter_nil:=@List.filter_nil
theorem aa3:type_of% @List.sublist_append_right:=@List.sublist_append_right
theorem aa4:type_of% @Bool.eq_iff_iff:=@Bool.eq_iff_iff
theorem aa5:type_of% @PySem.Heap.get?_update_self:=@PySem.Heap.get?_update_self
theorem aa6:type_of% @List.replicate_succ:=@List.replicate_succ
theorem aa7:type_of% @Array.getElem?_toList:=@Array.getElem?_toList
theorem aa8:type_of% @Bool.and_eq_true:=@Bool.and_eq_true
theorem aa9:type_of% @List.nodup_nil:=@List.nodup_nil
theorem aa_:type_of% @PySem.wpAny_dictEntries:=@PySem.wpAny_dictEntries
theorem aba:type_of% @List.getElem?_append_right:=@List.getElem?_append_right
theorem abb:type_of% @PySem.Calls.spliced_cons:=@PySem.Calls.spliced_cons
theorem abc:type_of% @decide_eq_true_iff:=@decide_eq_true_iff
theorem abd:type_of% @List.getElem?_set_self:=@List.getElem?_set_self
theorem abe:type_of% @PySem.Calls.callWith_builtin:=@PySem.Calls.callWith_builtin
theorem abf:type_of% @List.mem_range:=@List.mem_range
theorem abg:type_of% @PySem.W.kia_one:=@PySem.W.kia_one
theorem abh:type_of% @List.pairwise_iff_getElem:=@List.pairwise_iff_getElem
theorem abi:type_of% @Nat.lt_irrefl:=@Nat.lt_irrefl
theorem abj:type_of% @List.length_reverse:=@List.length_reverse
theorem abk:type_of% @PySem.Heap.SameBut.update:=@PySem.Heap.SameBut.update
theorem abl:type_of% @PySem.F.slot_dict_keyiterator_next:=@PySem.F.slot_dict_keyiterator_next
theorem abm:type_of% @Nat.lt_of_le_of_lt:=@Nat.lt_of_le_of_lt
theorem abn:type_of% @List.getElem?_set_ne:=@List.getElem?_set_ne
theorem abo:type_of% @PySem.wpAny_mono:=@PySem.wpAny_mono
theorem abp:type_of% @PySem.Calls.evalArgs_plain:=@PySem.Calls.evalArgs_plain
theorem abq:type_of% @List.all_eq_true:=@List.all_eq_true
theorem abr:type_of% @List.sublist_cons_self:=@List.sublist_cons_self
theorem abt:type_of% @List.filterMap_cons:=@List.filterMap_cons
theorem abu:type_of% @PySem.wpAny_truthy_bool:=@PySem.wpAny_truthy_bool
theorem abv:type_of% @PySem.Calls.spliced_nil:=@PySem.Calls.spliced_nil
theorem abw:type_of% @PySem.mem_of_lookup:=@PySem.mem_of_lookup
theorem abx:type_of% @PySem.wpAny_holding:=@PySem.wpAny_holding
theorem aby:type_of% @List.take_zero:=@List.take_zero
theorem abz:type_of% @List.take_append_drop:=@List.take_append_drop
theorem abA:type_of% @PySem.tupleKind_room_in1:=@PySem.tupleKind_room_in1
theorem abB:type_of% @PySem.wpAny_typeNameOfWhole_keyiter:=@PySem.wpAny_typeNameOfWhole_keyiter
theorem abC:type_of% @List.flatMap_nil:=@List.flatMap_nil
theorem abD:type_of% @Ne.symm:=@Ne.symm
theorem abE:type_of% @PySem.F.plainAttrs_dict:=@PySem.F.plainAttrs_dict
theorem abF:type_of% @Int.toNat_natCast:=@Int.toNat_natCast
theorem abG:type_of% @Bool.eq_false_iff:=@Bool.eq_false_iff
theorem abH:type_of% @List.length_range:=@List.length_range
theorem abI:type_of% @List.pairwise_map:=@List.pairwise_map
theorem abJ:type_of% @List.getElem?_inj:=@List.getElem?_inj
theorem abK:type_of% @List.flatMap_append:=@List.flatMap_append
theorem abL:type_of% @PySem.Heap.get?_update_other:=@PySem.Heap.get?_update_other
theorem abM:type_of% @PySem.wpAny_call_entry:=@PySem.wpAny_call_entry
theorem abN:type_of% @List.getElem?_take:=@List.getElem?_take
theorem abO:type_of% @List.filterMap_append:=@List.filterMap_append
theorem abP:type_of% @List.getElem?_append_left:=@List.getElem?_append_left
theorem abQ:type_of% @if_false:=@if_false
theorem abR:type_of% @PySem.wpAny_passesOwn:=@PySem.wpAny_passesOwn
theorem abS:type_of% @beq_iff_eq:=@beq_iff_eq
theorem abT:type_of% @List.flatten_cons:=@List.flatten_cons
theorem abU:type_of% @decide_eq_true_eq:=@decide_eq_true_eq
theorem abV:type_of% @PySem.F.slot_dict_update:=@PySem.F.slot_dict_update
theorem abW:type_of% @PySem.Heap.get?_push_ne:=@PySem.Heap.get?_push_ne
theorem abX:type_of% @List.any_cons:=@List.any_cons
theorem abY:type_of% @List.map_congr_left:=@List.map_congr_left
theorem abZ:type_of% @List.getElem?_range:=@List.getElem?_range
theorem ab0:type_of% @Int.toNat_of_nonneg:=@Int.toNat_of_nonneg
theorem ab1:type_of% @List.lookup_cons:=@List.lookup_cons
theorem ab2:type_of% @PyProof.Rows.boot_list:=@PyProof.Rows.boot_list
theorem ab3:type_of% @List.mem_filterMap:=@List.mem_filterMap
theorem ab4:type_of% @List.getElem?_drop:=@List.getElem?_drop
theorem ab5:type_of% @List.Nodup.sublist:=@List.Nodup.sublist
theorem ab6:type_of% @List.find?_cons:=@List.find?_cons
theorem ab7:type_of% @Option.map_some:=@Option.map_some
theorem ab8:type_of% @PySem.F.slot_dict_pop:=@PySem.F.slot_dict_pop
theorem ab9:type_of% @PySem.wpAny_specialOf:=@PySem.wpAny_specialOf
theorem ab_:type_of% @Bool.or_eq_true:=@Bool.or_eq_true
theorem aca:type_of% @PySem.wpAny_ite_split:=@PySem.wpAny_ite_split
theorem acb:type_of% @PySem.size_of_entries:=@PySem.size_of_entries
theorem acd:type_of% @List.take_sublist:=@List.take_sublist
theorem ace:type_of% @bne_self_eq_false:=@bne_self_eq_false
theorem acf:type_of% @Nat.lt_succ_self:=@Nat.lt_succ_self
theorem acg:type_of% @List.not_mem_nil:=@List.not_mem_nil
theorem ach:type_of% @List.range'_succ:=@List.range'_succ
theorem aci:type_of% @List.drop_length:=@List.drop_length
theorem acj:type_of% @List.getElem_mem:=@List.getElem_mem
theorem ack:type_of% @Sum.inr.inj:=@Sum.inr.inj
theorem acm:type_of% @PySem.sizeLine_eq:=@PySem.sizeLine_eq
theorem acn:type_of% @List.length_set:=@List.length_set
theorem aco:type_of% @Int.ofNat.inj:=@Int.ofNat.inj
theorem acp:type_of% @Nat.le_of_lt:=@Nat.le_of_lt
abbrev Qqq:=PySem.Value->PySem.Shared->Prop
abbrev Qqz:=List (PySem.Addr×PySem.Obj)
abbrev Qqx:=PySem.Str->Option PySem.Value
abbrev Qqy:=PySem.W.Frag
namespace L2
open PySem PySem.Spec PyProof.Rows
abbrev Key:=Sum Int Str
def zh:Key->Value->Bool
 | .inl k,v=>Value.isInt k v
 | .inr x,v=>Value.isStrOf x v
def We(w:World):Key->Int
 | .inl k=>hashInt k
 | .inr x=>hashStr w x
theorem jq:∀{k:Key} {v:Value},zh k v=true->(∃i t,k=Sum.inl i/\v=Value.int i t)\/(∃x t,k=Sum.inr x/\v=Value.str x t)
 | .inl i,v,h=>by
  obtain⟨t,e⟩:=Value.isInt_shape (k:=i) (v:=v) h
  exact .inl ⟨i,t,rfl,e⟩
 | .inr x,v,h=>by
  obtain⟨t,e⟩:=Value.isStrOf_shape (x:=x) (v:=v) h
  exact .inr ⟨x,t,rfl,e⟩
theorem HN(i:Int)(t:Tok):zh (.inl i) (.int i t)=true:=by simp[zh,Value.isInt]
theorem HP(x:Str)(t:Tok):zh (.inr x) (.str x t)=true:=by simp[zh,Value.isStrOf]
theorem Oq(a b:Int):decide ((Sum.inl a:Key)=Sum.inl b)=(a ==b):=by
 by_cases e:a=b
 ·subst e;simp
 ·have h:¬(Sum.inl a:Key)=Sum.inl b:=λq=>e (Sum.inl.inj q)
  rw[ZW h]
  exact(beq_eq_false_iff_ne.mpr e).symm
theorem Ot(a b:Str):decide ((Sum.inr a:Key)=Sum.inr b)=decide (a=b):=by
 by_cases e:a=b
 ·subst e;simp
 ·have h:¬(Sum.inr a:Key)=Sum.inr b:=λq=>e (ack q)
  rw[ZW h,ZW e]
theorem Ou(a:Int)(b:Str):decide ((Sum.inl a:Key)=Sum.inr b)=false:=ZW (λq=>nomatch q)
theorem Ov(a:Str)(b:Int):decide ((Sum.inr a:Key)=Sum.inl b)=false:=ZW (λq=>nomatch q)
def ji(prog:Program)(w:World):PySem.KeyKind prog w Key where
 is:=zh
 hash:=We w
 inj:=λv a b ha hb=>by
  rcases jq ha with⟨i,t,rfl,rfl⟩|⟨x,t,rfl,rfl⟩
  ·rcases jq hb with⟨j,u,rfl,e⟩|⟨y,u,rfl,e⟩
   ·injection e with e1 _;rw[e1]
   ·exact nomatch e
  ·rcases jq hb with⟨j,u,rfl,e⟩|⟨y,u,rfl,e⟩
   ·exact nomatch e
   ·injection e with e1 _;rw[e1]
 byValue:=λk v h=>by
  rcases jq h with⟨i,t,rfl,rfl⟩|⟨x,t,rfl,rfl⟩<;>rfl
 pyHash:=λhv h=>by
  rcases jq hv with⟨i,t,rfl,rfl⟩|⟨x,t,rfl,rfl⟩
  ·exact wpAny_pyHash_int h
  ·exact wpAny_pyHash_str h
 eqBool:=λhu hv h=>by
  rcases jq hu with⟨i,t,rfl,rfl⟩|⟨x,t,rfl,rfl⟩
  ·rcases jq hv with⟨j,u,rfl,rfl⟩|⟨y,u,rfl,rfl⟩
   ·rw[Oq] at h;exact wpAny_eqBool_int h
   ·rw[Ou] at h;exact SeqAt.EqAt.int_str i t y u _ _ _ _ h
  ·rcases jq hv with⟨j,u,rfl,rfl⟩|⟨y,u,rfl,rfl⟩
   ·rw[Ov] at h;exact SeqAt.EqAt.str_int x t j u _ _ _ _ h
   ·rw[Ot] at h;exact wpAny_eqBool_str h
 «strs»:=λk x t v h=>by
  rcases jq h with⟨i,u,rfl,e⟩|⟨y,u,rfl,e⟩
  ·exact nomatch e
  ·injection e with e1 _
   subst e1
   cases v<;>rfl
theorem DY(prog:Program)(w:World)(i:Int)(t:Tok):(ji prog w).is (.inl i) (.int i t)=true:=HN i t
theorem DZ(prog:Program)(w:World)(x:Str)(t:Tok):(ji prog w).is (.inr x) (.str x t)=true:=HP x t
inductive V where
 | jg|bl (b:Bool)|int (i:Int)|str (x:Str)|D1 (b:Array UInt8)|LK (b:UInt64)|ref (a:Addr)|ty (n:String)
 deriving DecidableEq
def RelV:V->Value->Prop
 | .jg,u=>u=Value.none
 | .bl b,u=>u=Value.bool b
 | .int i,u=>∃t,u=Value.int i t
 | .str x,u=>∃t,u=Value.str x t
 | .D1 b,u=>∃t,u=Value.bytes b t
 | .LK b,u=>∃t,u=Value.float b t
 | .ref a,u=>u=Value.ref a
 | .ty n,u=>u=Value.type n
abbrev Vals:List V->List Value->Prop:=Paired RelV
theorem Vals.length{xs:List V}{us:List Value}(r:Vals xs us):xs.length=us.length:=aak r
theorem Vals.get:∀{xs:List V} {us:List Value} {i:Nat} {x:V},Vals xs us->xs[i]?=some x->∃u,us[i]?=some u/\RelV x u
 | _,_,_,_,.nil,e=>by simp at e
 | _,_,0,_,.cons r _,e=>by simp at e;subst e;exact⟨_,rfl,r⟩
 | _,_,i+1,x,.cons _ t,e=>by
  obtain⟨u,h1,h2⟩:=Vals.get (i:=i) (x:=x) t (by simpa using e)
  exact⟨u,by simpa using h1,h2⟩
theorem Vals.set{x:V}{u:Value}(r:RelV x u):∀{xs:List V} {us:List Value} (i:Nat),Vals xs us->Vals (xs.set i x) (us.set i u)
 | _,_,_,.nil=>.nil
 | _,_,0,.cons _ t=>.cons r t
 | _,_,i+1,.cons q t=>.cons q (Vals.set r i t)
theorem Vals.append:∀{xs ys:List V} {us ws:List Value},Vals xs us->Vals ys ws->Vals (xs++ys) (us++ws)
 | _,_,_,_,.nil,s=>s
 | _,_,_,_,.cons r t,s=>.cons r (Vals.append t s)
theorem Vals.take:∀{xs:List V} {us:List Value} (n:Nat),Vals xs us->Vals (xs.take n) (us.take n)
 | _,_,0,_=>.nil
 | _,_,_+1,.nil=>.nil
 | _,_,n+1,.cons r t=>.cons r (Vals.take n t)
theorem Vals.drop:∀{xs:List V} {us:List Value} (n:Nat),Vals xs us->Vals (xs.drop n) (us.drop n)
 | _,_,0,r=>r
 | _,_,_+1,.nil=>.nil
 | _,_,n+1,.cons _ t=>Vals.drop n t
def pM:Option V->Option Value->Prop
 | some v,some u=>RelV v u
 | none,none=>True
 | _,_=>False
def KV{Z:Type}:List (Z×V)->List (Z×Value)->Prop:=Paired λ(p:Z×V) (q:Z×Value)=>p.1=q.1/\RelV p.2 q.2
noncomputable def kV:Key->V
 | .inl i=>.int i
 | .inr x=>.str x
inductive HO where
 | lst (xs:List V)
 | tup (xs:List V)
 | dK (kvs:List (Key×V))|dT (kvs:List (List Key×V))
 | set (S:Int->Bool) (n:Nat)
 | ins (C dx:Addr) (fs:List (Str×V))
 | own (x:Addr)
 | xd (fs:List (Str×V))
 | met (f x:Addr)
 | U5 (lo hi:Int)
 | nB (o:Obj) (u:HO)
 | LL (ps:Array Value)
 | ext (Z:Heap->Prop)
abbrev Hp:=Addr->Option HO
def upd(H:Hp)(a:Addr)(o:HO):Hp:=λb=>if b=a then some o else H b
theorem b_{H:Hp}{a:Addr}{o:HO}:upd H a o a=some o:=by unfold upd;rw[aan rfl]
theorem e_{H:Hp}{a b:Addr}{o:HO}(h:b≠a):upd H a o b=H b:=by unfold upd;rw[aac h]
theorem LY{H:Hp}{a:Addr}{o u:HO}:upd (upd H a o) a u=upd H a u:=by
 funext b;unfold upd;split<;>rfl
theorem i9{H:Hp}{a b:Addr}{o u:HO}(h:H a=some o)(h':H b=some u)(d:o≠u):a≠b:=by
 intro e;subst e;rw[h] at h';exact d (aaz h')
theorem gv{H:Hp}{a b:Addr}{o:HO}(h:H a=some o)(h':H b=none):a≠b:=by
 intro e;subst e;rw[h] at h';cases h'
section
variable(P:Program)(w:World)
def i7(H:Hp)(h:Heap)(a:Addr):HO->Prop
 | .lst xs=>xs.length<=sizeLine/\∃(gU:List Value)(n:Nat),Vals xs gU/\h.get? a=some {cls:=.type "list",data:=.seq gU.toArray n}
 | .tup xs=>xs.length<=sizeLine/\∃gU:List Value,Vals xs gU/\IsTup h a gU.toArray
 | .dK kvs=>kvs.length<=sizeLine/\(a ==sysModules)=false/\∃vs,KV kvs vs/\h.DictOf (ji P w) a vs
 | .dT kvs=>kvs.length<=sizeLine/\(a ==sysModules)=false/\∃xs:List (List Key×Addr×Value),
  Paired (λ(p:List Key×V) (q:List Key×Addr×Value)=>p.1=q.1/\H q.2.1=some (.tup (p.1.map kV))/\RelV p.2 q.2.2) kvs xs/\
  ∃o es ep,h.get? a=some o/\o.ExactDict/\o.data=.dict es ep/\es.toList=xs.map (entryOfKey (tupleKind (ji P w)))/\(xs.map (·.1)).Nodup
 | .set S n=>h.SetOf (intKind P w) a S n
 | .ins C dx fs=>H dx=some (.own a)/\fs.length<=1000/\dx≠a/\h.get? a=some (W.instObj C dx)/\
  ∃mA,h.Ns1 dx mA/\(∀f,pM (fs.lookup f) (mA f))/\PySem.Within mA (fs.map (·.1))
 | .own _=>∃o,h.get? a=some o
 | .xd fs=>∃mA,h.Ns1 a mA/\∀f,pM (fs.lookup f) (mA f)
 | .U5 lo hi=>∃t u v,h.get? a=some {cls:=.type "range",data:=.fields #[.int lo t,.int hi u,.int 1 v]}
 | .nB o u=>h.get? a=some o/\i7 H h a u
 | .LL ps=>h.get? a=some {cls:=.none,data:=.fields ps}
 | .met f x=>h.get? a=some (W.methodObj (.ref f) (.ref x))
 | .ext Z=>Z h/\(∃o,h.get? a=some o)/\∀h1 h2:Heap,Z h1->(∀o,h1.get? a=some o->h2.get? a=some o)->Z h2
def rD(H:Hp)(h:Heap):Prop:=∀a o,H a=some o->i7 P w H h a o
end
section
variable{P:Program}{w:World}{H H':Hp}{h h':Heap}{a:Addr}{o:HO}
theorem i7.lt(x:i7 P w H h a o):a<h.objs.size:=by
 cases o with
 | lst xs=>obtain⟨_,_,_,_,e⟩:=x;exact aas e
 | tup xs=>obtain⟨_,_,_,p⟩:=x;exact p.lt
 | dK kvs=>obtain⟨_,_,_,_,o,_,_,e,_⟩:=x;exact aas e
 | dT kvs=>obtain⟨_,_,_,_,o,_,_,e,_⟩:=x;exact aas e
 | set S n=>obtain⟨o,_,_,_,e,_⟩:=x;exact aas e
 | ins C dx fs=>obtain⟨_,_,_,e,_⟩:=x;exact aas e
 | own y=>obtain⟨_,e⟩:=x;exact aas e
 | xd fs=>obtain⟨_,⟨_,_,_,e,_⟩,_⟩:=x;exact aas e
 | U5 lo hi=>obtain⟨_,_,_,e⟩:=x;exact aas e
 | nB ob u=>obtain⟨e,_⟩:=x;exact aas e
 | LL ps=>exact aas (show h.get? a=some _ from x)
 | met f y=>exact aas (show h.get? a=some _ from x)
 | ext Z=>obtain⟨_,⟨_,e⟩,_⟩:=x;exact aas e
theorem Paired.jh{Z Y:Type}{F G:Z->Y->Prop}:∀{l1:List Z} {l2:List Y},Paired F l1 l2->(∀a b,F a b->G a b)->Paired G l1 l2
 | _,_,.nil,_=>.nil
 | _,_,.cons r t,f=>.cons (f _ _ r) (Paired.jh t f)
theorem i7.zi(x:i7 P w H h a o)(k:∀b u,(b=a\/H b=some (.own a))->h.get? b=some u->h'.get? b=some u)
  (ho:∀b,H b=some (.own a)->H' b=some (.own a)) (ht:∀b xs,H b=some (.tup xs)->H' b=some (.tup xs)):i7 P w H' h' a o:=by
 induction o with
 | lst xs=>obtain⟨z,gU,n,r,e⟩:=x;exact⟨z,gU,n,r,k _ _ (.inl rfl) e⟩
 | tup xs=>obtain⟨z,gU,r,ob,e,c⟩:=x;exact⟨z,gU,r,ob,k _ _ (.inl rfl) e,c⟩
 | dK kvs=>obtain⟨z,y,vs,r,ob,es,ep,e,c⟩:=x;exact⟨z,y,vs,r,ob,es,ep,k _ _ (.inl rfl) e,c⟩
 | dT kvs=>
  obtain⟨z,y,xs,r,ob,es,ep,e,c⟩:=x
  exact⟨z,y,xs,Paired.jh r λp q z=>⟨z.1,ht _ _ z.2.1,z.2.2⟩,ob,es,ep,k _ _ (.inl rfl) e,c⟩
 | set S n=>obtain⟨ob,es,ep,t,e,c⟩:=x;exact⟨ob,es,ep,t,k _ _ (.inl rfl) e,c⟩
 | ins C dx fs=>
  obtain⟨d,z,ne,e,mA,⟨od,es,ep,e2,c⟩,r⟩:=x
  exact⟨ho _ d,z,ne,k _ _ (.inl rfl) e,mA,⟨od,es,ep,k _ _ (.inr d) e2,c⟩,r⟩
 | own y=>obtain⟨ob,e⟩:=x;exact⟨ob,k _ _ (.inl rfl) e⟩
 | xd fs=>obtain⟨mA,⟨od,es,ep,e,c⟩,r⟩:=x;exact⟨mA,⟨od,es,ep,k _ _ (.inl rfl) e,c⟩,r⟩
 | U5 lo hi=>obtain⟨t,u,v,e⟩:=x;exact⟨t,u,v,k _ _ (.inl rfl) e⟩
 | nB ob u ih=>obtain⟨e,q⟩:=x;exact⟨k _ _ (.inl rfl) e,ih q⟩
 | LL ps=>
  have e:h.get? a=some {cls:=.none,data:=.fields ps}:=x
  show h'.get? a=some {cls:=.none,data:=.fields ps}
  exact k a _ (.inl rfl) e
 | met f y=>
  have e:h.get? a=some (W.methodObj (.ref f) (.ref y)):=x
  show h'.get? a=some (W.methodObj (.ref f) (.ref y))
  exact k a _ (.inl rfl) e
 | ext Z=>obtain⟨p,⟨o,e⟩,st⟩:=x;exact⟨st _ _ p λo q=>k _ _ (.inl rfl) q,⟨o,k _ _ (.inl rfl) e⟩,st⟩
theorem rD.lt(x:rD P w H h)(e:H a=some o):a<h.objs.size:=(x a o e).lt
theorem rD.fresh(x:rD P w H h)(e:h.objs.size<=a):H a=none:=by
 cases q:H a with
 | none=>rfl
 | some u=>exact absurd (aaB (x.lt q) e) (abi _)
theorem rD.kept(x:rD P w H h)(k:∀b u,h.get? b=some u->h'.get? b=some u):rD P w H h':=λa o e=>
 (x a o e).zi (λb u _ q=>k b u q) (λ_ q=>q) λ_ _ q=>q
theorem rD.laid(x:rD P w H h)(k:∀b u,h.get? b=some u->h'.get? b=some u)(hp:h.objs.size<=a)(new:i7 P w (upd H a o) h' a o):rD P w (upd H a o) h':=λb u e=>by
 have hn:=x.fresh hp
 by_cases hb:b=a
 ·subst hb;rw[b_] at e;cases e;exact new
 ·rw[e_ hb] at e
  exact(x b u e).zi (λc v _ q=>k c v q) (λc q=>by rw[e_ (gv q hn)];exact q) λc xs q=>by rw[e_ (gv q hn)];exact q
end
def Rd(H:Hp)(a:Addr)(u:HO):Prop:=H a=some u\/∃o,H a=some (.nB o u)
theorem Rd.ok{P:Program}{w:World}{H:Hp}{h:Heap}{a:Addr}{u:HO}(r:Rd H a u)(x:rD P w H h):i7 P w H h a u:=by
 rcases r with r|⟨o,r⟩
 ·exact x a u r
 ·obtain⟨_,q⟩:=x a _ r
  exact q
def NH:Option HO->Prop
 | some (.lst _)=>True
 | some (.dK _)=>True
 | some (.dT _)=>True
 | some (.set _ _)=>True
 | some (.ins _ _ _)=>True
 | some (.ext _)=>True
 | _=>False
section
variable{P:Program}{w:World}{H:Hp}{h h':Heap}{x e:Addr}{o':HO}
theorem rD.write(ok:rD P w H h)(mu:NH (H x))(he:e=x\/H e=some (.own x))(k:∀b u,b≠e->h.get? b=some u->h'.get? b=some u)(Lk:∃u,h'.get? e=some u)
  (new:i7 P w (upd H x o') h' x o'):rD P w (upd H x o') h':=λb u q=>by
 have S_:∀c y,H c=some (.own y)->c≠x:=λc y r z=>by subst z;rw[r] at mu;exact mu
 have Xa:∀c xs,H c=some (.tup xs)->c≠x:=λc xs r z=>by subst z;rw[r] at mu;exact mu
 by_cases hb:b=x
 ·subst hb;rw[b_] at q;cases q;exact new
 ·rw[e_ hb] at q
  by_cases Qk:b=e
  ·have q':H b=some (.own x):=by
    rcases he with z|z
    ·exact absurd (Qk.trans z) hb
    ·rw[Qk];exact z
   rw[q] at q';cases q'
   obtain⟨v,hv⟩:=Lk
   exact⟨v,by rw[Qk];exact hv⟩
  ·refine(ok b u q).zi (λc v hc r=>k c v ?_ r) (λc r=>by rw[e_ (S_ c b r)];exact r) λc xs r=>by rw[e_ (Xa c xs r)];exact r
   rcases hc with rfl|hc
   ·exact Qk
   ·rintro rfl
    rcases he with z|z
    ·exact S_ c b hc z
    ·rw[hc] at z;cases z;exact hb rfl
end
structure Un(fs ex:List Addr)(H H':Hp)(h h':Heap):Prop where
 keep:∀b o,h.get? b=some o->H b=none->b∉fs->b∉ex->h'.get? b=some o
 slot:∀b o,h.get? b=some o->H b=none->b∈fs->b∉ex->∃sl,h'.get? b=some {o with slots:=sl}
 free:∀b o,h.get? b=some o->H b=none->b∉ex->H' b=none
 there:∀b o,h.get? b=some o->b∉ex->∃o',h'.get? b=some o'
 pN:∀b xs,H b=some (.tup xs)->H' b=some (.tup xs)
 uZ:∀b o u,H b=some (.nB o u)->H' b=some (.nB o u)
 yL:∀b ps,H b=some (.LL ps)->∃more,H' b=some (.LL (ps++more))
section
variable{fs fs' ex ex':List Addr}{H H1 H2:Hp}{h h1 h2 h':Heap}{a x e:Addr}{o:HO}
theorem Un.any(u:Un fs ex H H1 h h1){b:Addr}{ob:Obj}(q:h.get? b=some ob)(n:H b=none)(hx:b∉ex):∃sl,h1.get? b=some {ob with slots:=sl}:=by
 by_cases hb:b∈fs
 ·exact u.slot b ob q n hb hx
 ·exact⟨ob.slots,u.keep b ob q n hb hx⟩
theorem Un.kept(k:∀b u,h.get? b=some u->h'.get? b=some u):Un fs ex H H h h':=
 ⟨λb ob q _ _ _=>k b ob q,λb ob q _ _ _=>⟨ob.slots,k b ob q⟩,λ_ _ _ n _=>n,λb ob q _=>⟨ob,k b ob q⟩,λ_ _ q=>q,λ_ _ _ q=>q,λ_ ps q=>⟨#[],by rw[q];simp⟩⟩
theorem Un.refl:Un fs ex H H h h:=Un.kept λ_ _ q=>q
theorem Un.laid(k:∀b u,h.get? b=some u->h'.get? b=some u)(hp:h.objs.size<=a)(hn:H a=none):Un fs ex H (upd H a o) h h' where
 keep:=λb u q _ _ _=>k b u q
 slot:=λb u q _ _ _=>⟨u.slots,k b u q⟩
 free:=λb u q n _=>by rw[e_ (aaJ (aaB (aas q) hp))];exact n
 there:=λb u q _=>⟨u,k b u q⟩
 pN:=λb xs q=>by rw[e_ (gv q hn)];exact q
 uZ:=λb u xs q=>by rw[e_ (gv q hn)];exact q
 yL:=λb ps q=>⟨#[],by rw[e_ (gv q hn),q];simp⟩
theorem Un.write(mu:NH (H x))(he:e=x\/H e=some (.own x))(k:∀b u,b≠e->h.get? b=some u->h'.get? b=some u)(Lk:∃u,h'.get? e=some u):Un fs ex H (upd H x o) h h':=by
 have hx:∀b,H b=none->b≠x:=λb n z=>by subst z;rw[n] at mu;exact mu
 have hb:∀b,H b=none->b≠e:=λb n z=>by
  subst z
  rcases he with r|r
  ·exact hx b n r
  ·rw[n] at r;cases r
 have hm:∀b u,H b=some u->¬NH (some u)->b≠x:=λb u q nm z=>by subst z;rw[q] at mu;exact nm mu
 refine⟨λb u q n _ _=>k b u (hb b n) q,λb u q n _ _=>⟨u.slots,k b u (hb b n) q⟩,λb u q n _=>by rw[e_ (hx b n)];exact n,λb u q _=>?_,
  λb xs q=>by rw[e_ (hm b _ q λz=>z)];exact q,λb u xs q=>by rw[e_ (hm b _ q λz=>z)];exact q,λb ps q=>⟨#[],by rw[e_ (hm b _ q λz=>z),q];simp⟩⟩
 by_cases Qk:b=e
 ·subst Qk;exact Lk
 ·exact⟨u,k b u Qk q⟩
end
def U6(h:Heap)(H:Hp):List Addr:=(List.range h.objs.size).filter λa=>(H a).isSome
def Cf(h:Heap)(H:Hp):Heap:=W.hideAll h (U6 h H)
theorem HQ(h:Heap)(H:Hp):(Cf h H).objs.size=h.objs.size:=W.hideAll_size _ _
theorem Jr{h:Heap}{H:Hp}{b:Addr}{o:Obj}(e:h.get? b=some o)(n:H b=none):(Cf h H).get? b=some o:=
 W.hideAll_get _ e λhm=>by
  have q:(H b).isSome=true:=(aal.mp hm).2
  rw[n] at q;simp at q
theorem LZ{h:Heap}{H:Hp}{b:Addr}{o:Obj}(e:(Cf h H).get? b=some o):h.get? b=some o/\H b=none:=by
 have e':h.get? b=some o:=W.of_hideAll (U6 h H) e
 refine⟨e',?_⟩
 cases q:H b with
 | none=>rfl
 | some x=>
  have hm:b∈U6 h H:=aal.mpr ⟨abf.mpr (aas e'),by simp[q]⟩
  have z:(Cf h H).get? b=none:=W.hideAll_none (U6 h H) hm
  rw[z] at e;cases e
def L0(g h:Heap)(L:Addr):Qqz:=(List.range h.objs.size).filterMap λa=>if a=L\/(g.get? a).isSome=true then none else(h.get? a).map λo=>(a,o)
def rest(g h:Heap)(L d:Addr):Qqz:=(L0 g h L).filter λp=>decide (p.1≠d)
structure Mod(K:Qqy)(mg:Qqx)(base:Heap):Prop where
 Q3:K.In base
 glob:base.Ns mainGlobals mg
 blt:∃mb,base.Ns builtinsNs mb/\∀x:Str,x≠"__name__"->mb x=bootBuiltins x
 nolimit:base.NoLimit
structure Cx where
 prog:Program
 w:World
 K:Qqy
 mg:Qqx
 base:Heap
 A:Around
 N:List Str
 s₀:Shared
 H₀:Hp
 env:Env
 outer:List Env
 stack:List Env
 ex:List Addr
 fn:Str->Bool
 calm:Bool
 pn:Qqz
 xe:Qqq
def uu(l:List Env):List Addr:=l.filterMap (·.frame)
abbrev Cx.fs(X:Cx):List Addr:=uu X.outer
def Wf(sc:Scope)(x:Str):Prop:=sc.names.lookup x=some .local\/sc.names.lookup x=some .cell\/sc.names.lookup x=some .free
def Loc(sc:Scope)(x:Str):Prop:=sc.names.lookup x=some .local\/sc.names.lookup x=some .cell
def Look(env:Env)(h:Heap)(m:Qqx)(x:Str)(u:Value):Prop:=
 (env.kindOf x=some .local/\m x=some u)\/((env.kindOf x=some .cell\/env.kindOf x=some .free)/\∃c,env.cells.lookup x=some c/\h.IsCell c (some u))
structure Cx.Ok(X:Cx):Prop where
 mod:Mod X.K X.mg X.base
 kind:X.env.scope.kind=.function
 glob:X.env.globals=mainGlobals
 blt:X.env.builtins=builtinsNs
 above:X.s₀.heap.objs.size<=X.env.locals
 inj:∀x y c,X.env.cells.lookup x=some c->X.env.cells.lookup y=some c->x=y
 has:∀x,(X.env.kindOf x=some .cell\/X.env.kindOf x=some .free)->∃c,X.env.cells.lookup x=some c
 Q4:∀x c,X.fn x=true->X.env.cells.lookup x=some c->X.s₀.heap.objs.size<=c
 hd:X.calm=true->X.A.handled=none
 frames:X.A.frames=some X.stack
 RG:X.stack=X.outer\/(X.stack=X.env::X.outer/\X.env.frame=some X.env.locals)
 Wg:∀b∈X.ex,b≠X.env.locals/\∀x c,X.env.cells.lookup x=some c->c≠b
 bs:∀b o,X.base.get? b=some o->X.s₀.heap.get? b=some o/\X.H₀ b=none
 L1:X.base.objs.size<=X.s₀.heap.objs.size
 tP:∀b o,X.base.get? b=some o->b∉X.ex
 Js:∀b∈X.ex,b∉X.fs
 u0:X.s₀.heap.FunFrames X.base X.outer
 NI:∀b∈X.fs,X.H₀ b=none
structure Inv(X:Cx)(c_:Qqz)(Z:List (Option V))(H:Hp)(s:Shared):Prop where
 ok:X.Ok
 os:s.os=X.s₀.os
 bare:AllBare s.gens
 base:Un X.fs X.ex X.H₀ H X.s₀.heap s.heap
 loc:∃m,s.heap.Ns X.env.locals m/\∀(i:Nat)(x:Str)(v:V),X.N[i]?=some x->Z[i]?=some (some v)->Wf X.env.scope x->∃u,RelV v u/\Look X.env s.heap m x u
 cell:∀x c,X.env.cells.lookup x=some c->∃v,s.heap.IsCell c v
 free:H X.env.locals=none
 pO:∀x c,X.env.cells.lookup x=some c->H c=none
 pin:∀p∈X.pn++c_,s.heap.get? p.1=some p.2/\H p.1=none/\p.1≠X.env.locals/\p.1∉X.fs/\∀v,p.2.data≠.cell v
 iM:rD X.prog X.w H s.heap
 len:Z.length=X.N.length
section
variable{X:Cx}{c_:Qqz}{Z:List (Option V)}{H H':Hp}{s:Shared}{h':Heap}
theorem Cx.Ok.L3(ok:X.Ok){b:Addr}{o:Obj}(e:X.base.get? b=some o):b∉X.fs:=λhb=>by
 have:=(ok.u0.mem hb).1
 rw[e] at this;cases this
theorem Inv.bs(I:Inv X c_ Z H s):∀b o,X.base.get? b=some o->s.heap.get? b=some o/\H b=none:=λb o e=>
 ⟨I.base.keep b o (I.ok.bs b o e).1 (I.ok.bs b o e).2 (I.ok.L3 e) (I.ok.tP b o e),I.base.free b o (I.ok.bs b o e).1 (I.ok.bs b o e).2 (I.ok.tP b o e)⟩
theorem Inv.bk(I:Inv X c_ Z H s):∀b o,X.base.get? b=some o->s.heap.get? b=some o:=λb o e=>(I.bs b o e).1
theorem Inv.mod(I:Inv X c_ Z H s):Mod X.K X.mg X.base:=I.ok.mod
theorem Inv.xK(I:Inv X c_ Z H s):X.K.In s.heap:=I.ok.mod.Q3.keeps I.bk
theorem Inv.lt(I:Inv X c_ Z H s):X.env.locals<s.heap.objs.size:=let ⟨_,hn,_⟩:=I.loc;hn.lt
theorem Inv.sz(I:Inv X c_ Z H s):X.s₀.heap.objs.size<=s.heap.objs.size:=aai I.ok.above (acp I.lt)
theorem Inv.RH(I:Inv X c_ Z H s){a:Addr}(h:s.heap.objs.size<=a):a∉X.fs:=λhb=>by
 obtain⟨_,o,ho,_⟩:=I.ok.u0.mem hb
 exact absurd (aaB (aas ho) (aai I.sz h)) (abi _)
theorem Inv.Ow(I:Inv X c_ Z H s):∀x c,X.env.cells.lookup x=some c->c≠X.env.locals:=λx c e z=>by
 obtain⟨v,o,ho,hd⟩:=I.cell x c e
 obtain⟨m,⟨o',es,ep,pI,Ta,_⟩,_⟩:=I.loc
 rw[z,pI] at ho;cases ho;rw[Ta] at hd;cases hd
theorem Inv.u0(I:Inv X c_ Z H s):s.heap.FunFrames X.base X.outer:=by
 have all:∀(l:List Env),(∀b∈uu l,b∈X.fs)->X.s₀.heap.FunFrames X.base l->s.heap.FunFrames X.base l:=by
  intro l
  induction l with
  | nil=>intro _ _;trivial
  | cons env r ih=>
   intro hs hl
   obtain⟨hk,⟨L,o,hf,hn,ho,hd⟩,hr⟩:=hl
   have hL:L∈X.fs:=hs L (by unfold uu;rw[abt,hf];exact aap)
   obtain⟨sl,e⟩:=I.base.slot L o ho (I.ok.NI L hL) hL λz=>I.ok.Js L z hL
   exact⟨hk,⟨L,_,hf,hn,e,hd⟩,ih (λb hb=>hs b (by unfold uu;rw[abt,hf];exact aaa _ hb)) hr⟩
 exact all X.outer (λ_ hb=>hb) I.ok.u0
theorem Inv.stack(I:Inv X c_ Z H s):s.heap.FunFrames X.base X.stack:=by
 rcases I.ok.RG with e|⟨e,hf⟩
 ·rw[e];exact I.u0
 ·rw[e]
  obtain⟨m,hn,_⟩:=I.loc
  refine .cons (by rw[I.ok.kind];decide) hf hn ?_ I.u0
  exact Heap.get?_none_of_le (aai I.ok.L1 I.ok.above)
theorem Inv.wF(I:Inv X c_ Z H s):∀b∈uu X.stack,b∈X.env.locals::X.fs:=λb hb=>by
 rcases I.ok.RG with e|⟨e,hf⟩
 ·rw[e] at hb;exact aaa _ hb
 ·rw[e] at hb
  unfold uu at hb
  rw[abt,hf] at hb
  exact hb
theorem Inv.Cg(I:Inv X c_ Z H s):∀b∈uu X.stack,H b=none:=λb hb=>by
 rcases XH.mp (I.wF b hb) with e|hb
 ·rw[e];exact I.free
 ·obtain⟨_,o,ho,_⟩:=I.ok.u0.mem hb
  exact I.base.free b o ho (I.ok.NI b hb) λz=>I.ok.Js b z hb
theorem Inv.step{g':Array GenState}{t':Nat}{d':Drawn}{ch:List Addr}(I:Inv X c_ Z H s)
  (LO:∀b∈ch,(b∈X.ex\/X.s₀.heap.objs.size<=b)/\b≠X.env.locals/\(∀x c,X.env.cells.lookup x=some c->c≠b)/\∀p∈X.pn++c_,p.1≠b)
  (keep:∀b o,b≠X.env.locals->b∉X.fs->b∉ch->s.heap.get? b=some o->H b=none->h'.get? b=some o)
  (slot:∀b o,b≠X.env.locals->b∈X.fs->b∉ch->s.heap.get? b=some o->H b=none->∃sl,h'.get? b=some {o with slots:=sl}) (free:∀b o,b∉ch->s.heap.get? b=some o->H b=none->H' b=none)
  (there:∀b o,b∉ch->s.heap.get? b=some o->∃o',h'.get? b=some o')
  (pN:∀b xs,H b=some (.tup xs)->H' b=some (.tup xs)) (uZ:∀b o u,H b=some (.nB o u)->H' b=some (.nB o u)) (yL:∀b ps,H b=some (.LL ps)->∃more,H' b=some (.LL (ps++more)))
  (ns:∀m,s.heap.Ns X.env.locals m->h'.Ns X.env.locals m) (iM:rD X.prog X.w H' h') (hg:AllBare g') :
  Inv X c_ Z H' {s with heap:=h',gens:=g',drawn:=d',toks:=t'}:=by
 have Z2:∀b o,X.s₀.heap.get? b=some o->b≠X.env.locals:=λb o e=>aaJ (aaB (aas e) I.ok.above)
 have Vh:∀b o,X.s₀.heap.get? b=some o->b∉X.ex->b∉ch:=λb o e hx hb=>by
  rcases(LO b hb).1 with z|z
  ·exact hx z
  ·exact absurd (aaB (aas e) z) (abi _)
 have cellK:∀x c,X.env.cells.lookup x=some c->∀v,s.heap.IsCell c v->h'.IsCell c v:=λx c e v ⟨o,ho,hd⟩=>by
  have Tc:c∉ch:=λz=>(LO c z).2.2.1 x c e rfl
  by_cases hc:c∈X.fs
  ·obtain⟨sl,q⟩:=slot c o (I.Ow x c e) hc Tc ho (I.pO x c e)
   exact⟨_,q,hd⟩
  ·exact⟨o,keep c o (I.Ow x c e) hc Tc ho (I.pO x c e),hd⟩
 refine⟨I.ok,I.os,hg,⟨λb o e n hb hx=>?_,λb o e n hb hx=>?_,λb o e n hx=>?_,λb o e hx=>?_,λb xs e=>pN b xs (I.base.pN b xs e),λb o xs e=>uZ b o xs (I.base.uZ b o xs e),λb ps e=>?_⟩,?_,λx c e=>?_,?_,λx c e=>?_,λp hp=>?_,iM,I.len⟩
 ·exact keep b o (Z2 b o e) hb (Vh b o e hx) (I.base.keep b o e n hb hx) (I.base.free b o e n hx)
 ·obtain⟨sl,e1⟩:=I.base.slot b o e n hb hx
  obtain⟨sl',e2⟩:=slot b _ (Z2 b o e) hb (Vh b o e hx) e1 (I.base.free b o e n hx)
  exact⟨sl',e2⟩
 ·obtain⟨o',e1⟩:=I.base.there b o e hx
  exact free b o' (Vh b o e hx) e1 (I.base.free b o e n hx)
 ·obtain⟨o',e1⟩:=I.base.there b o e hx
  exact there b o' (Vh b o e hx) e1
 ·obtain⟨m1,e1⟩:=I.base.yL b ps e
  obtain⟨m2,e2⟩:=yL b _ e1
  exact⟨m1++m2,by rw[e2,Array.append_assoc]⟩
 ·obtain⟨m,hn,hl⟩:=I.loc
  refine⟨m,ns m hn,λi x v e1 e2 e3=>?_⟩
  obtain⟨u,r,l⟩:=hl i x v e1 e2 e3
  refine⟨u,r,?_⟩
  rcases l with l|⟨k,c,e,z⟩
  ·exact .inl l
  ·exact .inr ⟨k,c,e,cellK x c e _ z⟩
 ·obtain⟨v,z⟩:=I.cell x c e
  exact⟨v,cellK x c e v z⟩
 ·obtain⟨m,⟨o,_,_,ho,_⟩,_⟩:=I.loc
  exact free _ o (λz=>(LO _ z).2.1 rfl) ho I.free
 ·obtain⟨v,o,ho,hd⟩:=I.cell x c e
  exact free c o (λz=>(LO c z).2.2.1 x c e rfl) ho (I.pO x c e)
 ·obtain⟨e,n,ne,nf,d⟩:=I.pin p hp
  have Tc:p.1∉ch:=λz=>(LO p.1 z).2.2.2 p hp rfl
  exact⟨keep p.1 p.2 ne nf Tc e n,free p.1 p.2 Tc e n,ne,nf,d⟩
theorem Inv.un{t':Nat}(I:Inv X c_ Z H s)(u:Un X.fs [] H H' s.heap h')(iM:rD X.prog X.w H' h'):Inv X c_ Z H' {s with heap:=h',toks:=t'}:=by
 obtain⟨m,⟨o,es,ep,ho,r⟩,_⟩:=id I.loc
 obtain⟨sl,hL⟩:=u.any ho I.free (by simp)
 exact I.step (g':=s.gens) (d':=s.drawn) (ch:=[]) (λ_ z=>nomatch z) (λb o _ hb _ e n=>u.keep b o e n hb (by simp)) (λb o _ hb _ e n=>u.slot b o e n hb (by simp)) (λb o _ e n=>u.free b o e n (by simp)) (λb o _ e=>u.there b o e (by simp)) u.pN u.uZ u.yL (λm' hm=>by
  obtain⟨o',Rg,N2,pI,r'⟩:=hm
  rw[ho] at pI;cases pI
  exact⟨_,Rg,N2,hL,r'⟩) iM I.bare
theorem Inv.call{g':Array GenState}{t':Nat}{d':Drawn}{ch:List Addr}(I:Inv X c_ Z H s)(u:Un (uu X.stack) ch H H' s.heap h')(iM:rD X.prog X.w H' h')(hg:AllBare g')
  (LO:∀b∈ch,(b∈X.ex\/X.s₀.heap.objs.size<=b)/\b≠X.env.locals/\(∀x c,X.env.cells.lookup x=some c->c≠b)/\∀p∈X.pn++c_,p.1≠b) :
  Inv X c_ Z H' {s with heap:=h',gens:=g',drawn:=d',toks:=t'}:=by
 obtain⟨m,⟨o,es,ep,ho,r⟩,_⟩:=id I.loc
 obtain⟨sl,hL⟩:=u.any ho I.free λz=>(LO _ z).2.1 rfl
 exact I.step (ch:=ch) LO (λb o hL hb hc e n=>u.keep b o e n (λz=>(XH.mp (I.wF b z)).elim hL hb) hc) (λb o _ _ hc e n=>u.any e n hc) (λb o hc e n=>u.free b o e n hc) (λb o hc e=>u.there b o e hc) u.pN u.uZ u.yL (λm' hm=>by
  obtain⟨o',Rg,N2,pI,r'⟩:=hm
  rw[ho] at pI;cases pI
  exact⟨_,Rg,N2,hL,r'⟩) iM hg
theorem Inv.turned{t':Nat}{it:Addr}(I:Inv X c_ Z H s)(k:∀b o,b≠it->s.heap.get? b=some o->h'.get? b=some o)(hn:H it=none)(hL:it≠X.env.locals)
  (h1:it∈X.ex\/X.s₀.heap.objs.size<=it) (h2:∀x c,X.env.cells.lookup x=some c->c≠it) (h3:∀p∈X.pn++c_,p.1≠it):Inv X c_ Z H {s with heap:=h',toks:=t'}:=by
 have Z3:∀b u,H b=some u->b≠it:=λb u e z=>by rw[z,hn] at e;cases e
 refine I.step (g':=s.gens) (d':=s.drawn) (ch:=[it]) (λb hb=>?_) (λb o _ _ hc e _=>k b o (λz=>hc (by simp[z])) e) (λb o _ _ hc e _=>⟨o.slots,k b o (λz=>hc (by simp[z])) e⟩) (λ_ _ _ _ n=>n)
  (λb o hc e=>⟨o,k b o (λz=>hc (by simp[z])) e⟩) (λ_ _ e=>e) (λ_ _ _ e=>e) (λb ps e=>⟨#[],by rw[e];simp⟩) (λm hm=>?_) (λb u e=>?_) I.bare
 ·have e:b=it:=by simpa using hb
  subst e
  exact⟨h1,hL,h2,h3⟩
 ·obtain⟨o,es,ep,ho,r⟩:=hm
  exact⟨o,es,ep,k _ o (abD hL) ho,r⟩
 ·refine(I.iM b u e).zi (λc v hc q=>k c v ?_ q) (λ_ q=>q) λ_ _ q=>q
  rcases hc with z|z
  ·rw[z];exact Z3 b u e
  ·exact Z3 c _ z
theorem Inv.tok(I:Inv X c_ Z H s)(t:Nat):Inv X c_ Z H {s with toks:=t}:=I.un (h':=s.heap) (t':=t) Un.refl I.iM
theorem Inv.kept{t':Nat}(I:Inv X c_ Z H s)(k:∀b u,s.heap.get? b=some u->h'.get? b=some u):Inv X c_ Z H {s with heap:=h',toks:=t'}:=I.un (Un.kept k) (I.iM.kept k)
theorem Inv.laid{a:Addr}{o:HO}{t':Nat}(I:Inv X c_ Z H s)(k:∀b u,s.heap.get? b=some u->h'.get? b=some u)(hp:s.heap.objs.size<=a)(new:i7 X.prog X.w (upd H a o) h' a o) :
 Inv X c_ Z (upd H a o) {s with heap:=h',toks:=t'}:=I.un (Un.laid k hp (I.iM.fresh hp)) (I.iM.laid k hp new)
theorem Inv.write{x e:Addr}{o:HO}{t':Nat}(I:Inv X c_ Z H s)(mu:NH (H x))(he:e=x\/H e=some (.own x))(k:∀b u,b≠e->s.heap.get? b=some u->h'.get? b=some u)(Lk:∃u,h'.get? e=some u)
 (new:i7 X.prog X.w (upd H x o) h' x o):Inv X c_ Z (upd H x o) {s with heap:=h',toks:=t'}:=I.un (Un.write mu he k Lk) (I.iM.write mu he k Lk new)
theorem Inv.y4{N3:Qqz}(I:Inv X c_ Z H s)(h:∀p∈N3,s.heap.get? p.1=some p.2/\H p.1=none/\p.1≠X.env.locals/\p.1∉X.fs/\∀v,p.2.data≠.cell v):Inv X N3 Z H s:=
 ⟨I.ok,I.os,I.bare,I.base,I.loc,I.cell,I.free,I.pO,λp hp=>(ZU.mp hp).elim (λz=>I.pin p (aad _ z)) (h p),I.iM,I.len⟩
theorem D2{N:List Str}(hN:N.Nodup){i j:Nat}{x:Str}(a:N[i]?=some x)(b:N[j]?=some x):i=j:=by
 obtain⟨h1,e1⟩:=List.getElem?_eq_some_iff.mp a
 obtain⟨h2,e2⟩:=List.getElem?_eq_some_iff.mp b
 exact(List.getElem_inj hN).mp (e1.trans e2.symm)
theorem Bv{M:Model}{A:Around}{E:Qqq}{i:Nat}{x:Str}{v:V}{u:Value}{Q:Unit->Shared->Prop}(I:Inv X c_ Z H s)(hN:X.N.Nodup)(hi:X.N[i]?=some x)(hx:Loc X.env.scope x)(r:RelV v u)
  (h:∀s',Inv X c_ (Z.set i (some v)) H s'->(∃a,Heap.SameBut a s.heap s'.heap/\(a=X.env.locals\/X.env.cells.lookup x=some a))->Q () s') (hf:X.fn x=true\/X.env.scope.names.lookup x=some .local:=by first|exact .inl rfl|exact .inr rfl|assumption):wpAny M A (storeName X.env x u) Q E s:=by
 obtain⟨m,hn,hl⟩:=id I.loc
 have Xb:(X.env.scope.kind ==.class||(X.env.scope.kind ==.module&&X.env.locals != X.env.globals))=false:=by rw[I.ok.kind];rfl
 have Z4:i<Z.length:=by rw[I.len];exact(List.getElem?_eq_some_iff.mp hi).1
 have Ow:=I.Ow
 have tracked:∀{a:Addr} {h':Heap},(∃o,s.heap.get? a=some o/\H a=none)->Heap.SameBut a s.heap h'->rD X.prog X.w H h':=λ{a h'} ha hs b ob e=>by
  obtain⟨_,_,yI⟩:=ha
  refine(I.iM b ob e).zi (λc w' hc q=>(hs.2 c ?_).trans q) (λ_ q=>q) λ_ _ q=>q
  rintro rfl
  rcases hc with rfl|hc
  ·rw[yI] at e;cases e
  ·rw[yI] at hc;cases hc
 rcases hx with hk|hk
 ·refine wpAny_storeName_local hk hn (λh' Rh hs=>?_) Xb
  obtain⟨oL,_,_,Vi,_⟩:=id hn
  refine h _ ⟨I.ok,I.os,I.bare,⟨λb o e n hb hx=>?_,λb o e n hb hx=>?_,I.base.free,λb o e hx=>?_,I.base.pN,I.base.uZ,I.base.yL⟩,⟨_,Rh,λj y v' e1 e2 e3=>?_⟩,λy c e=>?_,I.free,I.pO,λp hp=>?_,tracked ⟨oL,Vi,I.free⟩ hs,by simpa using I.len⟩ ⟨_,hs,.inl rfl⟩
  ·exact(hs.2 b (aaJ (aaB (aas e) I.ok.above))).trans (I.base.keep b o e n hb hx)
  ·obtain⟨sl,e1⟩:=I.base.slot b o e n hb hx
   exact⟨sl,(hs.2 b (aaJ (aaB (aas e) I.ok.above))).trans e1⟩
  ·obtain⟨o',e1⟩:=I.base.there b o e hx
   exact⟨o',(hs.2 b (aaJ (aaB (aas e) I.ok.above))).trans e1⟩
  ·by_cases hj:j=i
   ·subst hj
    rw[hi] at e1;cases e1
    rw[abd Z4] at e2
    cases e2
    exact⟨u,r,.inl ⟨hk,by simp⟩⟩
   ·rw[abn (abD hj)] at e2
    obtain⟨u',r',q⟩:=hl j y v' e1 e2 e3
    refine⟨u',r',?_⟩
    rcases q with⟨k,e⟩|⟨k,c,e,z⟩
    ·refine .inl ⟨k,?_⟩
     have:y≠x:=λe=>hj (D2 hN e1 (e▸hi))
     simp[this,e]
    ·exact .inr ⟨k,c,e,z.sameBut hs (Ow y c e)⟩
  ·obtain⟨w',z⟩:=I.cell y c e
   exact⟨w',z.sameBut hs (Ow y c e)⟩
  ·obtain⟨e,n,ne,nf,d⟩:=I.pin p hp
   exact⟨(hs.2 p.1 ne).trans e,n,ne,nf,d⟩
 ·have N4:X.fn x=true:=by
   rcases hf with z|z
   ·exact z
   ·rw[z] at hk;cases hk
  obtain⟨c,hc⟩:=I.ok.has x (.inl hk)
  obtain⟨w',z⟩:=I.cell x c hc
  refine wpAny_storeName_cell I.ok.kind hk hc z (λh' Bo hs=>?_)
  obtain⟨oc,Z5,Xc⟩:=id z
  refine h {s with heap:=h'} ⟨I.ok,I.os,I.bare,⟨λb o e n hb hx=>?_,λb o e n hb hx=>?_,I.base.free,λb o e hx=>?_,I.base.pN,I.base.uZ,I.base.yL⟩,⟨m,hn.sameBut hs (abD (Ow x c hc)),λj y v' e1 e2 e3=>?_⟩,λy c' e=>?_,I.free,I.pO,λp hp=>?_,tracked ⟨oc,Z5,I.pO x c hc⟩ hs,by simpa using I.len⟩ ⟨c,hs,.inr hc⟩
  ·exact(hs.2 b (aaJ (aaB (aas e) (I.ok.Q4 x c N4 hc)))).trans (I.base.keep b o e n hb hx)
  ·obtain⟨sl,e1⟩:=I.base.slot b o e n hb hx
   exact⟨sl,(hs.2 b (aaJ (aaB (aas e) (I.ok.Q4 x c N4 hc)))).trans e1⟩
  ·obtain⟨o',e1⟩:=I.base.there b o e hx
   exact⟨o',(hs.2 b (aaJ (aaB (aas e) (I.ok.Q4 x c N4 hc)))).trans e1⟩
  ·by_cases hj:j=i
   ·subst hj
    rw[hi] at e1;cases e1
    rw[abd Z4] at e2
    cases e2
    exact⟨u,r,.inr ⟨.inl hk,c,hc,Bo⟩⟩
   ·rw[abn (abD hj)] at e2
    obtain⟨u',r',q⟩:=hl j y v' e1 e2 e3
    refine⟨u',r',?_⟩
    rcases q with q|⟨k,c',e,z'⟩
    ·exact .inl q
    ·refine .inr ⟨k,c',e,z'.sameBut hs ?_⟩
     rintro rfl
     exact hj (D2 hN e1 (I.ok.inj _ _ _ e hc▸hi))
  ·by_cases Z6:c'=c
   ·subst Z6;exact⟨_,Bo⟩
   ·obtain⟨w2,z2⟩:=I.cell y c' e
    exact⟨w2,z2.sameBut hs Z6⟩
  ·obtain⟨e,n,ne,nf,d⟩:=I.pin p hp
   refine⟨(hs.2 p.1 ?_).trans e,n,ne,nf,d⟩
   intro q
   rw[q,Z5] at e
   have q':oc=p.2:=aaz e
   exact d w' (by rw[<-q'];exact Xc)
theorem D3{M:Model}{A:Around}{E:Qqq}{i:Nat}{x:Str}{v:V}{u:Value}{Q:Unit->Shared->Prop}(I:Inv X c_ Z H s)(hN:X.N.Nodup)(hi:X.N[i]?=some x)(hx:Loc X.env.scope x)(r:RelV v u)
  (h:∀s',Inv X c_ (Z.set i (some v)) H s'->Q () s') (hf:X.fn x=true\/X.env.scope.names.lookup x=some .local:=by first|exact .inl rfl|exact .inr rfl|assumption):wpAny M A (storeName X.env x u) Q E s:=
 Bv I hN hi hx r (λs' I' _=>h s' I') hf
theorem Inv.RI{s':Shared}{ch:List Addr}(I:Inv X c_ Z H s)(ho:s'.os=s.os)(u:Un (uu X.stack) ch H H' s.heap s'.heap)(iM:rD X.prog X.w H' s'.heap)(hg:AllBare s'.gens)
  (LO:∀b∈ch,(b∈X.ex\/X.s₀.heap.objs.size<=b)/\b≠X.env.locals/\(∀x c,X.env.cells.lookup x=some c->c≠b)/\∀p∈X.pn++c_,p.1≠b):Inv X c_ Z H' s':=by
 obtain⟨h',g',d',t',o'⟩:=s'
 have e:o'=s.os:=ho
 subst e
 exact I.call (g':=g') (t':=t') (d':=d') u iM hg LO
end
abbrev XK:=Value->Option Addr->Hp->Prop
abbrev St:=List (Option V)
abbrev VK:=V->Hp->Prop
abbrev TE:=St->Hp->VK->Prop
abbrev TT:=St->Hp->(Bool->Hp->Prop)->Prop
abbrev TA:=St->Hp->(List V->Hp->Prop)->Prop
structure Ends where
 nx:St->Hp->Prop
 rt:VK
 bk:St->Hp->Prop:=λ_ _=>False
 ct:St->Hp->Prop:=λ_ _=>False
abbrev TS:=Ends->St->Hp->Prop
def EP(X:Cx)(c_:Qqz)(Z:St)(Q:VK)(u:Value)(s':Shared):Prop:=∃v H',Inv X c_ Z H' s'/\RelV v u/\Q v H'
def TP(X:Cx)(c_:Qqz)(Z:St)(Q:Bool->Hp->Prop)(b:Bool)(s':Shared):Prop:=∃H',Inv X c_ Z H' s'/\Q b H'
def AP(X:Cx)(c_:Qqz)(Z:St)(Q:List V->Hp->Prop)(us:List Value)(s':Shared):Prop:=∃vs H',Inv X c_ Z H' s'/\Vals vs us/\Q vs H'
def SP(X:Cx)(c_:Qqz)(D:Ends)(f:Flow)(s':Shared):Prop:=
 match f with
 | .next=>∃Z' H',Inv X c_ Z' H' s'/\D.nx Z' H'
 | .brk=>∃Z' H',Inv X c_ Z' H' s'/\D.bk Z' H'
 | .cont=>∃Z' H',Inv X c_ Z' H' s'/\D.ct Z' H'
 | .ret u=>∃v Z' H',Inv X c_ Z' H' s'/\RelV v u/\D.rt v H'
def PE(X:Cx)(e:Expr)(t:TE):Prop:=
 ∀(c_:Qqz)(s:Shared)(Z:St)(H:Hp)(Q:VK),Inv X c_ Z H s->t Z H Q->wpAny (model X.prog X.w) X.A (eval e X.env) (EP X c_ Z Q) X.xe s
def PT(X:Cx)(e:Expr)(t:TT):Prop:=
 ∀(c_:Qqz)(s:Shared)(Z:St)(H:Hp)(Q:Bool->Hp->Prop),Inv X c_ Z H s->t Z H Q->wpAny (model X.prog X.w) X.A (isTrue e X.env (eval e X.env)) (TP X c_ Z Q) X.xe s
def PW(X:Cx)(e:Expr)(t:TT):Prop:=
 ∀(whole:Sem Value)(c_:Qqz)(s:Shared)(Z:St)(H:Hp)(Q:Bool->Hp->Prop),Inv X c_ Z H s->t Z H Q->wpAny (model X.prog X.w) X.A (isTrue e X.env whole) (TP X c_ Z Q) X.xe s
theorem PW.pt{X:Cx}{e:Expr}{t:TT}(h:PW X e t):PT X e t:=h _
def PA(X:Cx)(es:List Expr)(t:TA):Prop:=
 ∀(pos:Pos)(c_:Qqz)(s:Shared)(Z:St)(H:Hp)(Q:List V->Hp->Prop),Inv X c_ Z H s->t Z H Q->wpAny (model X.prog X.w) X.A (spliced (backTo pos (starEach es X.env))) (AP X c_ Z Q) X.xe s
def PS(X:Cx)(st:Stmt)(t:TS):Prop:=
 ∀(c_:Qqz)(s:Shared)(Z:St)(H:Hp)(D:Ends),Inv X c_ Z H s->t D Z H->wpAny (model X.prog X.w) X.A (exec st X.env) (SP X c_ D) X.xe s
def Fw(X:Cx)(st:List Stmt)(t:TS):Prop:=
 ∀(c_:Qqz)(s:Shared)(Z:St)(H:Hp)(D:Ends),Inv X c_ Z H s->t D Z H->wpAny (model X.prog X.w) X.A (execs st X.env) (SP X c_ D) X.xe s
theorem i8{Z:Type}{t:Sem Z}{Q Q':Z->Shared->Prop}{M:Model}{A:Around}{E:Qqq}{s:Shared}(h:wpAny M A t Q E s)(hQ:∀a s,Q a s->Q' a s):wpAny M A t Q' E s:=abo h hQ λ_ _ x=>x
section
variable{X:Cx}
inductive RJ(i:Nat)(Z:St)(H:Hp)(Q:VK):Prop
 | mk (v) (_:Z[i]?=some (some v)) (_:Q v H)
def tC(v:V):TE:=λ_ H Q=>Q v H
theorem Ox{i:Nat}{x:Str}{pos:Pos}(hN:X.N[i]?=some x)(hv:Wf X.env.scope x)(hd:(x ==("__debug__":Str))=false:=by decide)(Cb:(x ==("__classdict__":Str))=false:=by decide):PE X (.Name x pos) (RJ i):=by
 intro c_ s Z H Q I h
 obtain⟨v,e,h⟩:=h
 obtain⟨m,hn,hl⟩:=I.loc
 obtain⟨u,r,l⟩:=hl i x v hN e hv
 have fin:EP X c_ Z Q u s:=⟨v,H,I,r,h⟩
 rcases l with⟨hk,hm⟩|⟨hk,c,hc,N5⟩
 ·exact wpAny_Name (wpAny_loadName_local I.ok.kind hk hn hm fin) hd
 ·rcases hk with hk|hk
  ·exact wpAny_Name (wpAny_loadName_cell I.ok.kind hk hc N5 fin) hd
  ·exact wpAny_Name (wpAny_loadName_free I.ok.kind hk hc N5 fin Cb) hd
theorem gq{i j pos}:PE X (.Constant (.int i) j pos) (tC (.int i)):=λ_ _ _ H _ I h=>wpAny_Constant_int ⟨.int i,H,I.tok _,⟨_,rfl⟩,h⟩
theorem kG{b j pos}:PE X (.Constant (.bool b) j pos) (tC (.bl b)):=λ_ _ _ H _ I h=>Constant_bool ⟨.bl b,H,I,rfl,h⟩
theorem uv{j pos}:PE X (.Constant .none j pos) (tC .jg):=λ_ _ _ H _ I h=>Constant_none ⟨.jg,H,I,rfl,h⟩
theorem i_{x j pos}:PE X (.Constant (.str x) j pos) (tC (.str x)):=λ_ _ _ H _ I h=>Calls.Constant_str ⟨.str x,H,I.tok _,⟨_,rfl⟩,h⟩
def Gl(X:Cx)(x:Str):Prop:=X.env.kindOf x=some .globalImplicit
theorem u9{E:Qqq}{c_:Qqz}{s:Shared}{Z:St}{H:Hp}{x:Str}{u:Value}{pos:Pos}{Q:Qqq}(I:Inv X c_ Z H s)(hg:Gl X x)(hm:X.mg x=some u)(h:Q u s)
  (hd:(x ==("__debug__":Str))=false:=by decide):wpAny (model X.prog X.w) X.A (eval (.Name x pos) X.env) Q E s:=
 Calls.Name_function_global I.ok.kind hg (Calls.loadGlobal_global (by rw[I.ok.glob];exact I.mod.glob.keeps I.bk) hm h) hd
theorem pe{E:Qqq}{c_:Qqz}{s:Shared}{Z:St}{H:Hp}{x:Str}{u:Value}{pos:Pos}{Q:Qqq}(I:Inv X c_ Z H s)(hg:Gl X x)(hm:X.mg x=none)(hv:bootBuiltins x=some u)(h:Q u s)
  (hn:x≠"__name__":=by decide) (hd:(x ==("__debug__":Str))=false:=by decide):wpAny (model X.prog X.w) X.A (eval (.Name x pos) X.env) Q E s:=by
 obtain⟨mb,h1,h2⟩:=I.mod.blt
 exact Calls.Name_function_global I.ok.kind hg (Calls.loadGlobal_builtin (by rw[I.ok.glob];exact I.mod.glob.keeps I.bk) hm (by rw[I.ok.blt];exact h1.keeps I.bk) ((h2 x hn).trans hv) h) hd
theorem Ci{x:Str}{v:V}{u:Value}{pos:Pos}(hg:Gl X x)(hm:X.mg x=some u)(r:RelV v u)(hd:(x ==("__debug__":Str))=false:=by decide):PE X (.Name x pos) (tC v):=
 λ_ _ _ H _ I h=>u9 I hg hm ⟨v,H,I,r,h⟩ hd
theorem oE{x:Str}{v:V}{u:Value}{pos:Pos}(hg:Gl X x)(hm:X.mg x=none)(hv:bootBuiltins x=some u)(r:RelV v u)(hn:x≠"__name__":=by decide)(hd:(x ==("__debug__":Str))=false:=by decide):PE X (.Name x pos) (tC v):=
 λ_ _ _ H _ I h=>pe I hg hm hv ⟨v,H,I,r,h⟩ hn hd
variable{a b:Expr}{ta tb:TE}{pos:Pos}
def PC(X:Cx)(op:CmpOp)(a b:Expr)(t:TE):Prop:=
 ∀(c_:Qqz)(s:Shared)(Z:St)(H:Hp)(Q:VK),Inv X c_ Z H s->t Z H Q->
  wpAny (model X.prog X.w) X.A (eval a X.env) (λv s1=>wpAny (model X.prog X.w) X.A (eval b X.env) (λu s2=>wpAny (model X.prog X.w) X.A (compareOp op v u) (EP X c_ Z Q) X.xe s2) X.xe s1) X.xe s
theorem D5(b:Expr){op:CmpOp}(h:op≠.In)(h2:op≠.NotIn):behindInMarks op b=false:=by
 have e1:(op ==CmpOp.In)=false:=by cases op<;>first|rfl|exact absurd rfl h
 have e2:(op ==CmpOp.NotIn)=false:=by cases op<;>first|rfl|exact absurd rfl h2
 cases b<;>simp[behindInMarks,e1,e2]
def RK(ta:TE):TE:=λZ H Q=>ta Z H λx H1=>Q (.bl (!decide (x=.jg))) H1
theorem RelV.Jt{x:V}{v:Value}(r:RelV x v):(v ==Value.none)=decide (x=.jg):=by
 cases x with
 | jg=>cases r;rfl
 | bl _=>cases r;rfl
 | int _=>obtain⟨t,rfl⟩:=r;rfl
 | str _=>obtain⟨t,rfl⟩:=r;rfl
 | D1 _=>obtain⟨t,rfl⟩:=r;rfl
 | LK _=>obtain⟨t,rfl⟩:=r;rfl
 | ref _=>cases r;rfl
 | ty _=>cases r;rfl
theorem tw{j pos'}(ha:PE X a ta):PC X .IsNot a (.Constant .none j pos') (RK ta):=by
 intro c_ s Z H Q I h
 refine i8 (ha c_ s Z H _ I h) λv s1 iJ=>?_
 obtain⟨x,H1,I1,r1,q1⟩:=iJ
 exact Constant_none (isnot_none_gen ⟨.bl _,H1,I1,by rw[r1.Jt];rfl,q1⟩)
inductive bK(x:V)(H:Hp)(Q:Bool->Hp->Prop):Prop
 | mk (k:Bool) (_:x=.bl k) (_:Q k H)
def tB(t:TE):TT:=λZ H Q=>t Z H λx H1=>bK x H1 Q
theorem Oy{op:CmpOp}{t:TE}(h:PC X op a b t)(h1:behindInMarks op b=false:=by first|exact D5 _ (by decide) (by decide)|rfl):PE X (.Compare a [op] [b] pos) t:=λc_ s Z H Q I hw=>wpAny_Compare1 (h c_ s Z H Q I hw) h1
theorem jv{op:CmpOp}{t:TE}(h:PC X op a b t)(h1:behindInMarks op b=false:=by first|exact D5 _ (by decide) (by decide)|rfl):PT X (.Compare a [op] [b] pos) (tB t):=by
 intro c_ s Z H Q I hw
 refine wpAny_isTrue_Compare1 (i8 (h c_ s Z H _ I hw) λv s1 h1=>i8 h1 λu s2 h2=>i8 h2 λc s3 iJ=>?_) h1
 obtain⟨x,H1,I1,r1,q1⟩:=iJ
 obtain⟨d,rfl,q⟩:=q1
 cases r1
 exact abu ⟨H1,I1,q⟩
theorem kX{e:Expr}{t:TE}(h:PE X e t)(he:∀whole,isTrue e X.env whole=(do let v <-whole;standAt e.pos;holding [v] (truthy v)):=by intro _;rfl):PT X e (tB t):=by
 intro c_ s Z H Q I hw
 refine isTrue_plain (i8 (h c_ s Z H _ I hw) λv s1 iJ=>?_) (he _)
 obtain⟨x,H1,I1,r1,q1⟩:=iJ
 obtain⟨d,rfl,q⟩:=q1
 cases r1
 exact abu ⟨H1,I1,q⟩
variable{tA Vj:TT}{rest:List Expr}
def Wh(t u:TT):TT:=λZ H Q=>t Z H λc H1=>if c=true then u Z H1 Q else Q false H1
def tOr(t u:TT):TT:=λZ H Q=>t Z H λc H1=>if c=true then Q true H1 else u Z H1 Q
def Wi(t:TT):TT:=λZ H Q=>t Z H λc H1=>Q (!c) H1
theorem pw_and1(ha:PT X a tA):PW X (.BoolOp .And [a] pos) tA:=by
 intro wh c_ s Z H Q I h
 refine isTrue_and (i8 (ha c_ s Z H Q I h) λc s1 e=>?_)
 cases c with
 | true=>exact isTrue_and_nil e
 | false=>exact e
theorem pw_or1(ha:PT X a tA):PW X (.BoolOp .Or [a] pos) tA:=by
 intro wh c_ s Z H Q I h
 refine isTrue_or (i8 (ha c_ s Z H Q I h) λc s1 e=>?_)
 cases c with
 | false=>exact isTrue_or_nil e
 | true=>exact e
theorem pw_and(ha:PT X a tA)(hb:PW X (.BoolOp .And (b::rest) pos) Vj):PW X (.BoolOp .And (a::b::rest) pos) (Wh tA Vj):=by
 intro wh c_ s Z H Q I h
 refine isTrue_and (i8 (ha c_ s Z H _ I h) λc s1 iJ=>?_)
 obtain⟨H1,I1,q1⟩:=iJ
 cases c with
 | true=>exact hb wh c_ s1 Z H1 Q I1 q1
 | false=>exact⟨H1,I1,q1⟩
theorem pw_or(ha:PT X a tA)(hb:PW X (.BoolOp .Or (b::rest) pos) Vj):PW X (.BoolOp .Or (a::b::rest) pos) (tOr tA Vj):=by
 intro wh c_ s Z H Q I h
 refine isTrue_or (i8 (ha c_ s Z H _ I h) λc s1 iJ=>?_)
 obtain⟨H1,I1,q1⟩:=iJ
 cases c with
 | true=>exact⟨H1,I1,q1⟩
 | false=>exact hb wh c_ s1 Z H1 Q I1 q1
theorem ku(ha:PT X a tA):PT X (.UnaryOp .Not a pos) (Wi tA):=by
 intro c_ s Z H Q I h
 exact isTrue_not (ha c_ s Z H (λc H1=>Q (!c) H1) I h)
def RL(ta tb:TE):TE:=λZ H Q=>ta Z H λx H1=>∃c,x=.bl c/\if c=true then tb Z H1 Q else Q (.bl false) H1
def RM(ta:TE):TE:=λZ H Q=>ta Z H λx H1=>∃c,x=.bl c/\Q (.bl (!c)) H1
theorem Oz{op}{t:TE}(h:PE X a t):PE X (.BoolOp op [a] pos) t:=λc_ s Z H Q I hw=>BoolOp_one (h c_ s Z H Q I hw)
theorem OA(ha:PE X a ta)(hb:PE X (.BoolOp .And (b::rest) pos) tb):PE X (.BoolOp .And (a::b::rest) pos) (RL ta tb):=by
 intro c_ s Z H Q I h
 refine BoolOp_and (i8 (ha c_ s Z H _ I h) λv s1 iJ=>?_)
 obtain⟨x,H1,I1,r1,q1⟩:=iJ
 obtain⟨c,rfl,q1⟩:=q1
 cases r1
 refine abu ?_
 cases c with
 | true=>exact hb c_ s1 Z H1 Q I1 q1
 | false=>exact⟨.bl false,H1,I1,rfl,q1⟩
theorem OB(ha:PE X a ta):PE X (.UnaryOp .Not a pos) (RM ta):=by
 intro c_ s Z H Q I h
 refine UnaryOp_ (i8 (ha c_ s Z H _ I h) λv s1 iJ=>?_)
 obtain⟨x,H1,I1,r1,q1⟩:=iJ
 obtain⟨c,rfl,q1⟩:=q1
 cases r1
 exact not_of (abu ⟨.bl (!c),H1,I1,rfl,q1⟩)
end
def gO(K:Qqy)(H:Hp)(a:Addr)(xs:List V):Prop:=
 Rd H a (.lst xs)\/
  ∃(o:Obj)(gU:Array Value)(n:Nat),K.lookup a=some o/\o.cls=.type "list"/\o.dict=none/\o.data=.seq gU n/\gU.size<=sizeLine/\Vals xs gU.toList
def pf(K:Qqy)(H:Hp)(a:Addr)(xs:List V):Prop:=
 Rd H a (.tup xs)\/
  ∃(o:Obj)(gU:Array Value)(n:Nat),K.lookup a=some o/\o.cls=.type "tuple"/\o.data=.seq gU n/\gU.size<=sizeLine/\Vals xs gU.toList
noncomputable def Wj:Value->Option V
 | .none=>some .jg
 | .bool b=>some (.bl b)
 | .int i _=>some (.int i)
 | .str x _=>some (.str x)
 | .bytes b _=>some (.D1 b)
 | .float b _=>some (.LK b)
 | .ref a=>some (.ref a)
 | .type n=>some (.ty n)
 | _=>none
theorem RelV.abs{x:V}{u:Value}(r:RelV x u):Wj u=some x:=by
 cases x with
 | jg=>cases r;rfl
 | bl _=>cases r;rfl
 | int _=>obtain⟨t,rfl⟩:=r;rfl
 | str _=>obtain⟨t,rfl⟩:=r;rfl
 | D1 _=>obtain⟨t,rfl⟩:=r;rfl
 | LK _=>obtain⟨t,rfl⟩:=r;rfl
 | ref _=>cases r;rfl
 | ty _=>cases r;rfl
theorem RelV.inj{x y:V}{u:Value}(r:RelV x u)(q:RelV y u):x=y:=aaz (r.abs.symm.trans q.abs)
theorem Vals.inj:∀{xs ys:List V} {us:List Value},Vals xs us->Vals ys us->xs=ys
 | _,_,_,.nil,.nil=>rfl
 | _,_,_,.cons r t,.cons r' t'=>by rw[r.inj r',Vals.inj t t']
section
variable{X:Cx}{c_:Qqz}{Z:St}{H:Hp}{s:Shared}{a:Addr}{xs ys:List V}
theorem gO.of{K:Qqy}(h:H a=some (.lst xs)):gO K H a xs:=.inl (.inl h)
theorem pf.of{K:Qqy}(h:H a=some (.tup xs)):pf K H a xs:=.inl (.inl h)
theorem Inv.list(I:Inv X c_ Z H s)(h:gO X.K H a xs):∃gU:List Value,Vals xs gU/\PlainL s.heap a gU.toArray/\xs.length<=sizeLine:=by
 rcases h with h|⟨o,gU,n,hk,hc,hd,hs,hz,r⟩
 ·obtain⟨z,gU,n,r,e⟩:=h.ok I.iM
  exact⟨gU,r,⟨_,n,e,rfl,rfl,rfl⟩,z⟩
 ·refine⟨gU.toList,r,⟨o,n,I.xK a o hk,hc,hd,by simpa using hs⟩,?_⟩
  have e:=r.length
  simp only [aaL] at e
  omega
theorem Inv.tuple(I:Inv X c_ Z H s)(h:pf X.K H a xs):∃gU:List Value,Vals xs gU/\IsTup s.heap a gU.toArray/\xs.length<=sizeLine:=by
 rcases h with h|⟨o,gU,n,hk,hc,hs,hz,r⟩
 ·obtain⟨z,gU,r,p⟩:=h.ok I.iM
  exact⟨gU,r,p,z⟩
 ·refine⟨gU.toList,r,⟨o,I.xK a o hk,hc,n,by simpa using hs⟩,?_⟩
  have e:=r.length
  simp only [aaL] at e
  omega
theorem Inv.pP(I:Inv X c_ Z H s)(h:gO X.K H a xs)(h':gO X.K H a ys):xs=ys:=by
 obtain⟨gU,r,⟨o,n,e,_,_,d⟩,_⟩:=I.list h
 obtain⟨its',r',⟨o',n',e',_,_,d'⟩,_⟩:=I.list h'
 rw[e] at e';cases e'
 rw[d] at d'
 injection d' with d1 _
 have:gU=its':=by simpa using aaQ Array.toList d1
 subst this
 exact r.inj r'
theorem Inv.HR(I:Inv X c_ Z H s)(h:pf X.K H a xs)(h':pf X.K H a ys):xs=ys:=by
 obtain⟨gU,r,⟨o,e,_,n,d⟩,_⟩:=I.tuple h
 obtain⟨its',r',⟨o',e',_,n',d'⟩,_⟩:=I.tuple h'
 rw[e] at e';cases e'
 rw[d] at d'
 injection d' with d1 _
 have:gU=its':=by simpa using aaQ Array.toList d1
 subst this
 exact r.inj r'
end
noncomputable abbrev Cx.A3(X:Cx)(E:Qqq):Cx:={X with xe:=E}
noncomputable abbrev Cx.RN(X:Cx):Cx:=X.A3 λ_ _=>False
theorem Cx.Ok.A3{X:Cx}(ok:X.Ok)(E:Qqq):(X.A3 E).Ok:=
 ⟨ok.mod,ok.kind,ok.glob,ok.blt,ok.above,ok.inj,ok.has,ok.Q4,ok.hd,ok.frames,ok.RG,ok.Wg,ok.bs,ok.L1,ok.tP,ok.Js,ok.u0,ok.NI⟩
theorem Cx.Ok.rJ{X:Cx}{E:Qqq}(ok:(X.A3 E).Ok):X.Ok:=
 ⟨ok.mod,ok.kind,ok.glob,ok.blt,ok.above,ok.inj,ok.has,ok.Q4,ok.hd,ok.frames,ok.RG,ok.Wg,ok.bs,ok.L1,ok.tP,ok.Js,ok.u0,ok.NI⟩
section
variable{X:Cx}{c_:Qqz}{Z:St}{H:Hp}{s:Shared}{E:Qqq}
theorem Inv.A3(I:Inv X c_ Z H s)(E:Qqq):Inv (X.A3 E) c_ Z H s:=⟨I.ok.A3 E,I.os,I.bare,I.base,I.loc,I.cell,I.free,I.pO,I.pin,I.iM,I.len⟩
theorem Inv.rJ(I:Inv (X.A3 E) c_ Z H s):Inv X c_ Z H s:=⟨I.ok.rJ,I.os,I.bare,I.base,I.loc,I.cell,I.free,I.pO,I.pin,I.iM,I.len⟩
theorem SP.rJ{D:Ends}{f:Flow}{s':Shared}(h:SP (X.A3 E) c_ D f s'):SP X c_ D f s':=by
 cases f with
 | next=>obtain⟨Z',H',I,q⟩:=h;exact⟨Z',H',I.rJ,q⟩
 | brk=>obtain⟨Z',H',I,q⟩:=h;exact⟨Z',H',I.rJ,q⟩
 | cont=>obtain⟨Z',H',I,q⟩:=h;exact⟨Z',H',I.rJ,q⟩
 | ret u=>obtain⟨v,Z',H',I,r,q⟩:=h;exact⟨v,Z',H',I.rJ,r,q⟩
theorem Fw.RN{st:List Stmt}{t:TS}(h:Fw X.RN st t):Fw X st t:=λc_ s Z H D I hw=>
 abo (h c_ s Z H D (I.A3 _) hw) (λ_ _ q=>q.rJ) λ_ _ z=>False.elim z
end
section
variable{X:Cx}{st:Stmt}{rest:List Stmt}{t u:TS}{e:Expr}{te:TE}{pos:Pos}
def RO:TS:=λD Z H=>D.nx Z H
def iA(t u:TS):TS:=λD Z H=>t {D with nx:=u D} Z H
theorem g_:Fw X [] RO:=λ_ _ Z H _ I h=>wpAny_execs_nil ⟨Z,H,I,h⟩
theorem de(h1:PS X st t)(h2:Fw X rest u):Fw X (st::rest) (iA t u):=by
 intro c_ s Z H D I h
 refine wpAny_execs_cons (i8 (h1 c_ s Z H {D with nx:=u D} I h) λf s1 q=>?_)
 cases f with
 | next=>
  obtain⟨Z',H',I',q⟩:=q
  exact h2 c_ s1 Z' H' D I' q
 | ret v=>exact q
 | brk=>exact q
 | cont=>exact q
theorem f_(h1:PS X st t):Fw X [st] t:=by
 intro c_ s Z H D I h
 refine wpAny_execs_cons (i8 (h1 c_ s Z H D I h) λf s1 q=>?_)
 cases f with
 | next=>exact wpAny_execs_nil q
 | ret v=>exact q
 | brk=>exact q
 | cont=>exact q
def RP:TS:=λD Z H=>D.ct Z H
theorem D6:PS X (.Continue pos) RP:=λ_ _ Z H _ I h=>wpAny_Continue ⟨Z,H,I,h⟩
theorem Inv.quiet{c_:Qqz}{Z:St}{H:Hp}{s:Shared}(I:Inv X c_ Z H s):interactive X.env=false:=by simp[interactive,I.ok.kind]
def RQ(te:TE):TS:=λD Z H=>te Z H λ_ H1=>D.nx Z H1
theorem h_(he:PE X e te)(hs:swapsWith e none pos.line X.env=pure false:=by rfl):PS X (.Expr e pos) (RQ te):=by
 intro c_ s Z H D I h
 exact wpAny_Expr_any (i8 (he c_ s Z H _ I h) λv s1 ⟨x,H1,I1,r1,q1⟩=>⟨Z,H1,I1,q1⟩) I.quiet hs
def Wk(te:TE):TS:=λD Z H=>te Z H D.rt
theorem gZ(he:PE X e te):PS X (.Return (some e) pos) (Wk te):=by
 intro c_ s Z H D I h
 exact wpAny_Return_some (i8 (he c_ s Z H _ I h) λv s1 ⟨x,H1,I1,r1,q1⟩=>⟨x,Z,H1,I1,r1,q1⟩)
def Wl(c:TT)(t u:TS):TS:=λD Z H=>c Z H λb H1=>if b=true then t D Z H1 else u D Z H1
theorem iC{c:Expr}{a b:List Stmt}{tc:TT}(hc:PT X c tc)(ha:Fw X a t)(hb:Fw X b u):PS X (.If c a b pos) (Wl tc t u):=by
 intro c_ s Z H D I h
 refine wpAny_If (i8 (hc c_ s Z H _ I h) λd s1 iJ=>?_)
 obtain⟨H1,I1,q1⟩:=iJ
 cases d with
 | true=>exact ha c_ s1 Z H1 D I1 q1
 | false=>exact hb c_ s1 Z H1 D I1 q1
end
abbrev TG:=V->St->Hp->(St->Hp->Prop)->Prop
abbrev OC:=List V->St->Hp->(St->Hp->Prop)->Prop
def PG(X:Cx)(target:Expr)(t:TG):Prop:=
 ∀(c_:Qqz)(s:Shared)(Z:St)(H:Hp)(v:V)(u:Value)(Q:St->Hp->Prop),Inv X c_ Z H s->RelV v u->t v Z H Q->
  wpAny (model X.prog X.w) X.A (assign target X.env u) (λ_ s'=>∃Z' H',Inv X c_ Z' H' s'/\Q Z' H') X.xe s
def U7(X:Cx)(ts:List Expr)(t:OC):Prop:=
 ∀(c_:Qqz)(s:Shared)(Z:St)(H:Hp)(vs:List V)(us:List Value)(Q:St->Hp->Prop),Inv X c_ Z H s->Vals vs us->t vs Z H Q->
  wpAny (model X.prog X.w) X.A (assignInOrder ((assignEach ts X.env).map (·.2)) us) (λ_ s'=>∃Z' H',Inv X c_ Z' H' s'/\Q Z' H') X.xe s
abbrev OD:=V->V->V->Hp->(Hp->Prop)->Prop
def RS(X:Cx)(t:OD):Prop:=
 ∀(c_:Qqz)(s:Shared)(Z:St)(H:Hp)(o i v:V)(ov iv u:Value)(Q:Hp->Prop),Inv X c_ Z H s->RelV o ov->RelV i iv->RelV v u->t o i v H Q->
  wpAny (model X.prog X.w) X.A (setItem ov iv u) (λ_ s'=>∃H',Inv X c_ Z H' s'/\Q H') X.xe s
section
variable{X:Cx}{pos:Pos}
def nE(i:Nat):TG:=λv Z H Q=>Q (Z.set i (some v)) H
theorem iK{i:Nat}{x:Str}(hN:X.N.Nodup)(hi:X.N[i]?=some x)(hx:Loc X.env.scope x)(hf:X.fn x=true\/X.env.scope.names.lookup x=some .local:=by first|exact .inl rfl|exact .inr rfl|assumption):PG X (.Name x pos) (nE i):=by
 intro c_ s Z H v u Q I r h
 exact wpAny_assign_Name (D3 I hN hi hx r (λs' I'=>⟨_,H,I',h⟩) hf)
def Wm:OC:=λvs Z H Q=>vs=[]/\Q Z H
def RT(t:TG)(u:OC):OC:=λvs Z H Q=>∃v r,vs=v::r/\t v Z H λZ' H'=>u r Z' H' Q
theorem GU:U7 X [] Wm:=by
 intro c_ s Z H vs us Q I r h
 obtain⟨e,h⟩:=h
 subst e
 cases r
 exact assignInOrder_nil ⟨Z,H,I,h⟩
theorem u_{e:Expr}{es:List Expr}{t:TG}{u:OC}(h1:PG X e t)(h2:U7 X es u)
  (hs:(assignEach (e::es) X.env).map (·.2)=assign e X.env::(assignEach es X.env).map (·.2):=by rfl):U7 X (e::es) (RT t u):=by
 intro c_ s Z H vs us Q I r h
 obtain⟨v,vr,e1,h⟩:=h
 subst e1
 cases r with
 | cons r rr=>
  rw[hs]
  refine assignInOrder_cons (i8 (h1 c_ s Z H _ _ _ I r h) λ_ s1 iJ=>?_)
  obtain⟨Z1,H1,I1,q1⟩:=iJ
  exact h2 c_ s1 Z1 H1 _ _ Q I1 rr q1
def Wn(K:Qqy)(n:Nat)(t:OC):TG:=λv Z H Q=>∃a xs,v=.ref a/\pf K H a xs/\xs.length=n/\t xs Z H Q
theorem Ju{es:List Expr}{k:Nat}{t:OC}{n:Nat}(hc:X.calm=true)(h:U7 X es t)
  (hn:(assignEach es X.env).length=n:=by rfl) (xy:(assignEach es X.env).findIdx? (·.1)=none:=by rfl):PG X (.Tuple es k pos) (Wn X.K n t):=by
 intro c_ s Z H v u Q I r hw
 obtain⟨a,xs,e1,hq,hl,hw⟩:=hw
 subst e1
 cases r
 obtain⟨gU,rv,ht,hz⟩:=I.tuple hq
 refine assign_Tuple_tuple (I.ok.hd hc) ht (by simp[hn,<-hl,rv.length]) xy λh' hx=>?_
 have I1:Inv X c_ Z H {s with heap:=h'}:=I.kept (t':=s.toks) λb o e=>hx b o (aaJ (aas e)) e
 exact h c_ _ Z H xs _ Q I1 (by simpa using rv) hw
def Wo(to ti:TE)(t:OD):TG:=λv Z H Q=>to Z H λo H1=>ti Z H1 λi H2=>t o i v H2 λH3=>Q Z H3
theorem Cj{o i:Expr}{to ti:TE}{t:OD}(ho:PE X o to)(hi:PE X i ti)(hs:RS X t)
  (ha:∀v,assign (.Subscript o i pos) X.env v=(do
   let ov <-holding [v] (eval o X.env)
   let iv <-holding [v,ov] (eval i X.env)
   standAt pos
   holding [v,ov,iv] (setItem ov iv v)
   release [v,ov,iv] []):=by intro _;rfl):PG X (.Subscript o i pos) (Wo to ti t):=by
 intro c_ s Z H v u Q I r h
 rw[ha]
 refine TN (abx (i8 (ho c_ s Z H _ I h) λov s1 iJ=>?_))
 obtain⟨x,H1,I1,r1,q1⟩:=iJ
 refine TN (abx (i8 (hi c_ s1 Z H1 _ I1 q1) λiv s2 iJ=>?_))
 obtain⟨y,H2,I2,r2,q2⟩:=iJ
 refine TN (wpAny_standAt (TN (abx (i8 (hs c_ s2 Z H2 x y v ov iv u _ I2 r1 r2 r q2) λ_ s3 iJ=>?_))))
 obtain⟨H3,I3,q3⟩:=iJ
 exact wpAny_release ⟨Z,H3,I3,q3⟩
def Jw(te:TE)(g:TG):TS:=λD Z H=>te Z H λx H1=>g x Z H1 D.nx
theorem Ck{tg e:Expr}{te:TE}{g:TG}(he:PE X e te)(hg:PG X tg g)(hs:swapsWithSole [tg] e pos.line X.env=pure false:=by rfl)(hw:swappedStores [tg] e X.env=pure none:=by rfl)
  (h1:(assignEach [tg] X.env).map (·.2)=[assign tg X.env]:=by rfl):PS X (.Assign [tg] e pos) (Jw te g):=by
 intro c_ s Z H D I h
 refine wpAny_Assign_stores (i8 (he c_ s Z H _ I h) λv s1 iJ=>?_) hs hw
 obtain⟨x,H1,I1,r1,q1⟩:=iJ
 rw[h1]
 exact i8 (hg c_ s1 Z H1 x v _ I1 r1 q1) λ_ s2 q=>q
theorem mS{i:Nat}{x:Str}{e:Expr}{te:TE}{pos':Pos}(hN:X.N.Nodup)(hi:X.N[i]?=some x)(hx:Loc X.env.scope x)(he:PE X e te)(hs:swapsWith e (some (.Name x pos')) pos.line X.env=pure false:=by rfl)(hf:X.fn x=true\/X.env.scope.names.lookup x=some .local:=by first|exact .inl rfl|exact .inr rfl|assumption) :
  PS X (.Assign [.Name x pos'] e pos) (Jw te (nE i)):=by
 intro c_ s Z H D I h
 refine wpAny_Assign_Name (i8 (he c_ s Z H _ I h) λv s1 iJ=>?_) hs
 obtain⟨y,H1,I1,r1,q1⟩:=iJ
 exact D3 I1 hN hi hx r1 (λs2 I2=>⟨_,H1,I2,q1⟩) hf
def OE(c:TT)(tb:TS):TS:=λD Z H=>∃W:Nat->St->Hp->Prop,(∃m,W m Z H)/\∀m Z H,W m Z H->
 c Z H λb H1=>if b=true then ∃N:St->Hp->Prop,(∀Z' H',N Z' H'->∃m',m'<m/\W m' Z' H')/\tb {D with nx:=N,ct:=N,bk:=D.nx} Z H1 else D.nx Z H1
theorem D7{c:Expr}{body:List Stmt}{tc:TT}{tb:TS}(hp:PassesOwn (model X.prog X.w) X.A X.env X.xe)(hc:PT X c tc)(hb:Fw X body tb):PS X (.While c body [] pos) (OE tc tb):=by
 intro c_ s Z H D I h
 obtain⟨W,⟨m0,w0⟩,turn⟩:=h
 refine wpAny_While (codeAny_whileLoop (λn s'=>∃Z' H',Inv X c_ Z' H' s'/\W n Z' H') ?_ m0 ⟨Z,H,I,w0⟩)
 rintro n s1 ⟨Z1,H1,I1,w1⟩
 refine abR hp (i8 (hc c_ s1 Z1 H1 _ I1 (turn n Z1 H1 w1)) λb s2 iJ=>?_)
 obtain⟨H2,I2,q2⟩:=iJ
 cases b with
 | true=>
  obtain⟨N,hN,q2⟩:=q2
  rw[aan rfl]
  refine abR hp (i8 (hb c_ s2 Z1 H2 _ I2 q2) λf s3 q3=>?_)
  cases f with
  | next=>
   obtain⟨Z3,H3,I3,n3⟩:=q3
   obtain⟨m',hm,w3⟩:=hN Z3 H3 n3
   exact⟨m',hm,Z3,H3,I3,w3⟩
  | cont=>
   obtain⟨Z3,H3,I3,n3⟩:=q3
   obtain⟨m',hm,w3⟩:=hN Z3 H3 n3
   exact⟨m',hm,Z3,H3,I3,w3⟩
  | brk=>exact q3
  | ret v=>exact q3
 | false=>
  rw[aac aae]
  exact wpAny_execs_nil ⟨Z1,H2,I2,q2⟩
end
structure It where
 go:Nat->Hp->Prop
 Jx:Nat->Hp->V->Hp->Prop
 stop:Nat->Hp->Prop
def uw(X:Cx)(c_:Qqz)(H:Hp)(b:Addr):Prop:=
 H b=none/\b≠X.env.locals/\b∉X.fs/\(b∈X.ex\/X.s₀.heap.objs.size<=b)/\(∀x c,X.env.cells.lookup x=some c->c≠b)/\∀p∈X.pn++c_,p.1≠b
theorem Inv.zj{X:Cx}{c_:Qqz}{Z:St}{H H':Hp}{s:Shared}{b:Addr}(I:Inv X c_ Z H s)(hb:s.heap.objs.size<=b)(hn:H' b=none):uw X c_ H' b:=by
 refine⟨hn,Nat.ne_of_gt (aaB I.lt hb),I.RH hb,.inr (aai I.sz hb),λx c e z=>?_,λp hp z=>?_⟩
 ·obtain⟨v,q⟩:=I.cell x c e
  exact absurd (aaB q.lt (by rw[z];exact hb)) (abi _)
 ·exact absurd (aaB (aas (I.pin p hp).1) (by rw[z];exact hb)) (abi _)
structure Turn(P:Program)(w:World)(K:Qqy)(tg:Expr)(J:It)(fp:List Addr)(it:Addr)(tn:Nat->Heap->Prop):Prop where
 mem:it∈fp
 obj:∀i h,tn i h->∀b∈fp,∃o,h.get? b=some o/\∀v,o.data≠.cell v
 keep:∀i h h',tn i h->(∀b∈fp,∀o,h.get? b=some o->h'.get? b=some o)->tn i h'
 item:∀(X:Cx),X.prog=P->X.w=w->X.K=K->X.calm=true->∀(i:Nat)(c_:Qqz)(s:Shared)(Z:St)(H:Hp)(E:Qqq),Inv X c_ Z H s->(∀b∈fp,uw X c_ H b)->tn i s.heap->J.go i H->
  wpAny (model P w) X.A (pyNext (.ref it)) (λr s1=>∃u,r=some u/\
   wpAny (model P w) X.A (letOwnedTupleGo tg (.ref it) u) (λ_ s2=>∃x H',Inv X c_ Z H' s2/\RelV x u/\J.Jx i H x H'/\tn (i+1) s2.heap/\∀b∈fp,H' b=none) E s1) E s
 done:∀(X:Cx),X.prog=P->X.w=w->X.K=K->X.calm=true->∀(i:Nat)(c_:Qqz)(s:Shared)(Z:St)(H:Hp)(E:Qqq),Inv X c_ Z H s->(∀b∈fp,uw X c_ H b)->tn i s.heap->J.stop i H->
  wpAny (model P w) X.A (pyNext (.ref it)) (λr s1=>r=none/\Inv X c_ Z H s1) E s
 self:∀(A:Around)(i:Nat)(s:Shared)(Q:Qqq)(E:Qqq),tn i s.heap->Q (.ref it) s->wpAny (model P w) A (pyIter (.ref it)) Q E s
abbrev TI:=St->Hp->(It->Hp->Prop)->Prop
def Wq(X:Cx)(c_:Qqz)(Z:St)(tg:Expr)(R:It->Hp->Prop)(Vk:Value)(s2:Shared):Prop:=
 ∃(it:Addr)(fp:List Addr)(tn:Nat->Heap->Prop)(J:It)(H':Hp),Vk=.ref it/\Inv X c_ Z H' s2/\Turn X.prog X.w X.K tg J fp it tn/\tn 0 s2.heap/\(∀b∈fp,uw X c_ H' b)/\R J H'
def PI(X:Cx)(tg iter:Expr)(wi:TI):Prop:=
 ∀(c_:Qqz)(s:Shared)(Z:St)(H:Hp)(R:It->Hp->Prop),Inv X c_ Z H s->wi Z H R->
  wpAny (model X.prog X.w) X.A (eval iter X.env) (λv s1=>wpAny (model X.prog X.w) X.A (pyIter v) (Wq X c_ Z tg R) X.xe s1) X.xe s
theorem zl{M:Model}{A:Around}{E:Qqq}{s:Shared}{tg:Expr}{it:Addr}{u:Value}{o:Obj}{n:String}{vs:Array Value}{Q:Unit->Shared->Prop}(ho:s.heap.get? it=some o)(hc:o.cls=.type n)(hd:o.data=.fields vs)
  (hn:["enumerate","zip","dict_itemiterator","dict_reverseitemiterator","odict_iterator","itertools.zip_longest","itertools.pairwise"].contains n=false) (hQ:Q () s):wpAny M A (letOwnedTupleGo tg (.ref it) u) Q E s:=by
 unfold letOwnedTupleGo
 cases tg<;>first
  | exact aaf hQ
  | (cases u<;>first
   | exact aaf hQ
   | (
    refine TN (wpAny_load ho ?_)
    rw[hc,hd]
    show wpAny M A (if(["enumerate","zip","dict_itemiterator","dict_reverseitemiterator","odict_iterator","itertools.zip_longest","itertools.pairwise"].contains n&&vs[0]? ==some (rawInt _))=true then _ else _) Q E s
    rw[aac (by intro h;rw[hn,Bool.false_and] at h;cases h)]
    exact aaf hQ))
def Q5(K:Qqy)(a:Addr):It:=
 ⟨λi H=>∃xs x,gO K H a xs/\xs[i]?=some x,λi H x H'=>H'=H/\∀xs,gO K H a xs->xs[i]?=some x,λi H=>∃xs,gO K H a xs/\xs.length<=i⟩
def NJ(lo:Int)(n:Nat):It:=⟨λi _=>i<n,λi H x H'=>H'=H/\x=.int (lo+i),λi _=>n<=i⟩
theorem HS{P:Program}{w:World}{K:Qqy}{tg:Expr}(a it:Addr):Turn P w K tg (Q5 K a) [it] it (λi h=>h.IsListIter it a i) where
 mem:=by simp
 obj:=λi h st b hb=>by
  have e:b=it:=by simpa using hb
  subst e
  obtain⟨o,e,c,d⟩:=st
  exact⟨o,e,λv z=>by rw[d] at z;cases z⟩
 keep:=λi h h' st k=>st.at λo e=>k it (by simp) o e
 item:=by
  intro X hP hw hK hc i c_ s Z H E I hf st hg
  subst hP hw hK
  obtain⟨xs,x,hq,hx⟩:=hg
  obtain⟨gU,rv,p,hz⟩:=I.list hq
  obtain⟨u,hu,ru⟩:=rv.get hx
  obtain⟨f0,f1,f2,f3,f4,f5⟩:=hf it (by simp)
  refine wpAny_pyNext_list_item st p.isList (x:=u) (by simpa using hu) λh' yJ sb=>?_
  have I1:Inv X c_ Z H {s with heap:=h'}:=I.turned (t':=s.toks) (λb o hb e=>(sb.2 b hb).trans e) f0 f1 f3 f4 f5
  obtain⟨o,e,c,d⟩:=id yJ
  exact⟨u,rfl,zl (s:={s with heap:=h'}) e c d (by decide) ⟨x,H,I1,ru,⟨rfl,λys hy=>by rw[I.pP hy hq];exact hx⟩,yJ,λb hb=>(hf b hb).1⟩⟩
 done:=by
  intro X hP hw hK hc i c_ s Z H E I hf st hg
  subst hP hw hK
  obtain⟨xs,hq,hx⟩:=hg
  obtain⟨gU,rv,p,hz⟩:=I.list hq
  obtain⟨f0,f1,f2,f3,f4,f5⟩:=hf it (by simp)
  have hl:=rv.length
  exact wpAny_pyNext_list_end (I.ok.hd hc) st p.isList (by simp;omega) λh' eb=>⟨rfl,I.turned (t':=s.toks) (λb o hb e=>eb b o hb e) f0 f1 f3 f4 f5⟩
 self:=λ_ _ _ _ _ st h=>wpAny_pyIter_listiter st h
theorem Fy{P:Program}{w:World}{K:PySem.W.Frag}{tg:Expr}(it:Addr)(lo:Int)(n:Nat):Turn P w K tg (NJ lo n) [it] it (λi h=>IsRangeIter h it (lo+(i:Nat)*1) ((n:Int)-(i:Nat)) 1) where
 mem:=by simp
 obj:=λi h st b hb=>by
  have e:b=it:=by simpa using hb
  subst e
  exact⟨_,st,λv z=>by
   have z':Data.fields _=Data.cell v:=z
   cases z'⟩
 keep:=λi h h' st k=>k it (by simp) _ st
 item:=by
  intro X hP hw hK hc i c_ s Z H E I hf st hg
  subst hP hw hK
  obtain⟨f0,f1,f2,f3,f4,f5⟩:=hf it (by simp)
  have W:=Walks.range (prog:=X.prog) (w:=X.w) (I.ok.hd hc) it lo 1 n
  refine W.item i s _ _ hg st λv h' tk hv yJ kk=>?_
  obtain⟨t,rfl⟩:=hv
  have I1:Inv X c_ Z H {s with heap:=h',toks:=tk}:=I.turned (λb o hb e=>kk b o (by simpa using hb) e) f0 f1 f3 f4 f5
  refine⟨_,rfl,zl (s:={s with heap:=h',toks:=tk}) (n:="range_iterator") yJ rfl rfl (by decide) ⟨.int (lo+i),H,I1,⟨t,?_⟩,⟨rfl,rfl⟩,yJ,λb hb=>(hf b hb).1⟩⟩
  rw[Int.mul_one]
 done:=by
  intro X hP hw hK hc i c_ s Z H E I hf st hg
  subst hP hw hK
  obtain⟨f0,f1,f2,f3,f4,f5⟩:=hf it (by simp)
  exact wpAny_pyNext_range_end (I.ok.hd hc) st (by have:n<=i:=hg;omega) λh' eb=>⟨rfl,I.turned (t':=s.toks) (λb o hb e=>eb b o hb e) f0 f1 f3 f4 f5⟩
 self:=λ_ _ _ _ _ st h=>wpAny_pyIter_rangeiter st h
section
variable{X:Cx}{tg:Expr}
inductive lK(K:Qqy)(x:V)(H:Hp)(R:It->Hp->Prop):Prop
 | mk (a:Addr) (_:x=.ref a) (_:∃xs,gO K H a xs) (_:R (Q5 K a) H)
def RU(K:Qqy)(tl:TE):TI:=λZ H R=>tl Z H λx H1=>lK K x H1 R
theorem iq{l:Expr}{tl:TE}(hl:PE X l tl):PI X tg l (RU X.K tl):=by
 intro c_ s Z H R I h
 refine i8 (hl c_ s Z H _ I h) λv s1 iJ=>?_
 obtain⟨x,H1,I1,r1,q1⟩:=iJ
 obtain⟨a,e,⟨xs,hq⟩,q⟩:=q1
 subst e
 cases r1
 obtain⟨gU,rv,p,hz⟩:=I1.list hq
 refine wpAny_pyIter_list p.isList ?_
 refine⟨s1.heap.objs.size,[s1.heap.objs.size],_,_,H1,rfl,I1.kept (t':=s1.toks) λb o e=>aaj _ e,HS a _,⟨_,aax _ rfl,rfl,rfl⟩,λb hb=>?_,q⟩
 have e:b=s1.heap.objs.size:=by simpa using hb
 subst e
 exact I1.zj (WR _) (I1.iM.fresh (WR _))
theorem D8{c_:Qqz}{Z:St}{H:Hp}{s:Shared}{R:It->Hp->Prop}{E:Qqq}{lo hi:Int}{t u v:Tok}{tk:Nat}(I:Inv X c_ Z H s)(h1:-(2 ^ 62)<=lo)(h2:lo<2 ^ 62)(h3:-(2 ^ 62)<=hi)(h4:hi<2 ^ 62)
  (q:R (NJ lo (hi-lo).toNat) H):wpAny (model X.prog X.w) X.A (pyIter (.ref s.heap.objs.size)) (Wq X c_ Z tg R) E {s with heap:=s.heap.push {cls:=.type "range",data:=.fields #[.int lo t,.int hi u,.int 1 v]},toks:=tk}:=by
 refine wpAny_pyIter_range (IsRange.new ..) (small_one h1 h2 h3 h4) ?_
 have I1:Inv X c_ Z H {s with heap:=s.heap.push {cls:=.type "range",data:=.fields #[.int lo t,.int hi u,.int 1 v]},toks:=tk}:=I.kept λb o e=>aaj _ e
 refine⟨(s.heap.push {cls:=.type "range",data:=.fields #[.int lo t,.int hi u,.int 1 v]}).objs.size,[(s.heap.push {cls:=.type "range",data:=.fields #[.int lo t,.int hi u,.int 1 v]}).objs.size],_,_,H,rfl,
  I1.kept (t':=tk) λb o e=>aaj _ e,Fy _ lo (hi-lo).toNat,?_,λb hb=>?_,q⟩
 ·have e1:lo+((0:Nat):Int)*1=lo:=by simp
  have e2:(((hi-lo).toNat:Nat):Int)-((0:Nat):Int)=Builtin.Range.rangeSize lo hi 1:=by rw[rangeSize_one];split<;>omega
  show IsRangeIter _ _ (lo+((0:Nat):Int)*1) ((((hi-lo).toNat:Nat):Int)-((0:Nat):Int)) 1
  rw[e1,e2]
  exact aax _ rfl
 ·have e:b=(s.heap.push {cls:=.type "range",data:=.fields #[.int lo t,.int hi u,.int 1 v]}).objs.size:=by simpa using hb
  subst e
  exact I1.zj (WR _) (I1.iM.fresh (WR _))
def RV(ta:TA):TI:=λZ H R=>ta Z H λvs H1=>∃j:Int,vs=[.int j]/\-(2 ^ 62)<=j/\j<2 ^ 62/\R (NJ 0 j.toNat) H1
def RW(ta:TA):TI:=λZ H R=>ta Z H λvs H1=>∃i j:Int,vs=[.int i,.int j]/\(-(2 ^ 62)<=i/\i<2 ^ 62/\-(2 ^ 62)<=j/\j<2 ^ 62)/\R (NJ i (j-i).toNat) H1
theorem jE{a:Expr}{ta:TA}{p pos:Pos}(hg:Gl X "range")(hm:X.mg "range"=none)(ha:PA X [a] ta)(hs:starEach [a] X.env=[(false,eval a X.env)]:=by rfl):PI X tg (.Call (.Name "range" p) [a] [] pos) (RV ta):=by
 intro c_ s Z H R I h
 refine Call_ (pe I hg hm boot_range (aa1 (i8 (ha pos c_ s Z H _ I h) λus s1 iJ=>?_) hs rfl))
 obtain⟨vs,H1,I1,r1,q1⟩:=iJ
 obtain⟨j,e,q1,q2,q⟩:=q1
 subst e
 cases r1 with
 | cons r rr=>
  cases rr
  obtain⟨t,rfl⟩:=r
  exact call_range_1 (D8 I1 (by omega) (by omega) q1 q2 (by simpa using q))
theorem wG{a b:Expr}{ta:TA}{p pos:Pos}(hg:Gl X "range")(hm:X.mg "range"=none)(ha:PA X [a,b] ta)(hs:starEach [a,b] X.env=[(false,eval a X.env),(false,eval b X.env)]:=by rfl)(Jm:starEach [b] X.env=[(false,eval b X.env)]:=by rfl) :
  PI X tg (.Call (.Name "range" p) [a,b] [] pos) (RW ta):=by
 intro c_ s Z H R I h
 refine Call_ (pe I hg hm boot_range (aa1 (i8 (ha pos c_ s Z H _ I h) λus s1 iJ=>?_) (by rw[hs,Jm]) (by rw[Jm];rfl)))
 obtain⟨vs,H1,I1,r1,q1⟩:=iJ
 obtain⟨i,j,e,⟨q1,q2,q3,q4⟩,q⟩:=q1
 subst e
 cases r1 with
 | cons r rr=>
  cases rr with
  | cons r' rr=>
   cases rr
   obtain⟨t,rfl⟩:=r
   obtain⟨t',rfl⟩:=r'
   exact call_range_2 (D8 I1 q1 q2 q3 q4 q)
def OF(wi:TI)(g:TG)(tb:TS):TS:=λD Z H=>wi Z H λJ H1=>∃W:Nat->Nat->St->Hp->Prop,(∃m,W 0 m Z H1)/\∀i m Z H,W i m Z H->
 (J.stop i H/\D.nx Z H)\/(J.go i H/\∃N:St->Hp->Prop,(∀Z' H',N Z' H'->∃m',m'<m/\W (i+1) m' Z' H')/\∀x H',J.Jx i H x H'->g x Z H' λZ2 H2=>tb {D with nx:=N,ct:=N,bk:=D.nx} Z2 H2)
def zm(fp:List Addr)(h:Heap):Qqz:=fp.filterMap λb=>(h.get? b).map λo=>(b,o)
theorem qp{fp:List Addr}{h:Heap}{b:Addr}{o:Obj}(hb:b∈fp)(e:h.get? b=some o):(b,o)∈zm fp h:=ab3.mpr ⟨b,hb,by rw[e];rfl⟩
theorem HU{fp:List Addr}{h:Heap}{p:Addr×Obj}(hp:p∈zm fp h):p.1∈fp/\h.get? p.1=some p.2:=by
 obtain⟨b,hb,e⟩:=ab3.mp hp
 cases q:h.get? b with
 | none=>rw[q] at e;cases e
 | some o=>
  rw[q] at e
  have e':(b,o)=p:=aaz e
  subst e'
  exact⟨hb,q⟩
theorem Inv.pinned{c_:Qqz}{Z:St}{H:Hp}{s:Shared}{fp:List Addr}(I:Inv X c_ Z H s)(hf:∀b∈fp,uw X c_ H b)(ho:∀b∈fp,∃o,s.heap.get? b=some o/\∀v,o.data≠.cell v):Inv X (c_++zm fp s.heap) Z H s:=
 I.y4 λp hp=>(ZU.mp hp).elim (λz=>I.pin p (aay _ z)) λz=>by
  obtain⟨hb,e⟩:=HU z
  obtain⟨f0,f1,f2,_⟩:=hf p.1 hb
  obtain⟨o,e',d⟩:=ho p.1 hb
  rw[e] at e';cases e'
  exact⟨e,f0,f1,f2,d⟩
theorem Inv.vd{c_ pl:Qqz}{Z:St}{H:Hp}{s:Shared}(I:Inv X (c_++pl) Z H s):Inv X c_ Z H s:=I.y4 λp hp=>I.pin p (aay _ (aad _ hp))
theorem ix{iter:Expr}{body:List Stmt}{wi:TI}{g:TG}{tb:TS}{pos:Pos}(hp:PassesOwn (model X.prog X.w) X.A X.env X.xe)(hc:X.calm=true)(hi:PI X tg iter wi)(hg:PG X tg g)(hb:Fw X body tb)
  (hs:∀x,foldedSetIterable iter X.env x=pure x:=by intro _;rfl):PS X (.For tg iter body [] pos) (OF wi g tb):=by
 intro c_ s Z H D I h
 refine wpAny_For (i8 (hi c_ s Z H _ I h) λv s1 h1=>i8 h1 λVk s2 h2=>?_) hs
 obtain⟨it,fp,tn,J,H2,e,I2,T,Bp,f2,W,⟨m0,w0⟩,turn⟩:=h2
 subst e
 have Ql:∀{H':Hp},(∀b∈fp,H' b=none)->∀b∈fp,uw X c_ H' b:=λhn b hb=>⟨hn b hb,(f2 b hb).2⟩
 refine codeAny_forLoop_any (λn s'=>∃i Z' H',Inv X c_ Z' H' s'/\tn i s'.heap/\(∀b∈fp,H' b=none)/\W i n Z' H') ?_ m0 ⟨0,Z,H2,I2,Bp,λb hb=>(f2 b hb).1,w0⟩
 rintro n s3 ⟨i,Z3,H3,I3,uY,Td,w3⟩
 rcases turn i n Z3 H3 w3 with⟨stop,qn⟩|⟨go,N,hN,step⟩
 ·refine abR hp (i8 (T.done X rfl rfl rfl hc i c_ s3 Z3 H3 X.xe I3 (Ql Td) uY stop) λr s4 iJ=>?_)
  obtain⟨hr,I4⟩:=iJ
  subst hr
  exact wpAny_execs_nil ⟨Z3,H3,I4,qn⟩
 ·refine abR hp (i8 (T.item X rfl rfl rfl hc i c_ s3 Z3 H3 X.xe I3 (Ql Td) uY go) λr s4 iJ=>?_)
  obtain⟨u,hr,h4⟩:=iJ
  subst hr
  refine abR hp (i8 h4 λ_ s5 iJ=>?_)
  obtain⟨x,H5,I5,r5,y5,Qm,Xd⟩:=iJ
  have Xe:=I5.pinned (Ql Xd) (T.obj _ _ Qm)
  refine abR hp (i8 (hg _ s5 Z3 H5 x u _ Xe r5 (step x H5 y5)) λ_ s6 iJ=>?_)
  obtain⟨Z6,H6,I6,q6⟩:=iJ
  refine abR hp (i8 (hb _ s6 Z6 H6 _ I6 q6) λf s7 q7=>?_)
  have again:∀{Z7:St} {H7:Hp},Inv X (c_++zm fp s5.heap) Z7 H7 s7->N Z7 H7->∃m,m<n/\∃i Z' H',Inv X c_ Z' H' s7/\tn i s7.heap/\(∀b∈fp,H' b=none)/\W i m Z' H':=λ{Z7 H7} I7 n7=>by
   obtain⟨m',hm,w7⟩:=hN Z7 H7 n7
   refine⟨m',hm,i+1,Z7,H7,I7.vd,T.keep _ _ _ Qm λb hb o e=>(I7.pin (b,o) (aay _ (aay _ (qp hb e)))).1,λb hb=>?_,w7⟩
   obtain⟨o,e,d⟩:=T.obj _ _ Qm b hb
   exact(I7.pin (b,o) (aay _ (aay _ (qp hb e)))).2.1
  cases f with
  | next=>obtain⟨Z7,H7,I7,n7⟩:=q7;exact again I7 n7
  | cont=>obtain⟨Z7,H7,I7,n7⟩:=q7;exact again I7 n7
  | brk=>obtain⟨Z7,H7,I7,q7⟩:=q7;exact⟨Z7,H7,I7.vd,q7⟩
  | ret v=>obtain⟨x7,Z7,H7,I7,r7,q7⟩:=q7;exact⟨x7,Z7,H7,I7.vd,r7,q7⟩
end
theorem iV{K:PySem.W.Frag}{a:Addr}{xs:List V}{g:TG}{tb:TS}{D:Ends}{Z:St}{H:Hp}(Pv:Nat->St->Hp->Prop)(h0:Pv 0 Z H)(hl:∀i Z H,i<=xs.length->Pv i Z H->gO K H a xs)
  (hs:∀i x Z H,xs[i]?=some x->Pv i Z H->g x Z H λZ2 H2=>tb {D with nx:=Pv (i+1),ct:=Pv (i+1),bk:=D.nx} Z2 H2) (hd:∀Z H,Pv xs.length Z H->D.nx Z H) :
  ∃W:Nat->Nat->St->Hp->Prop,(∃m,W 0 m Z H)/\∀i m Z H,W i m Z H->
   ((Q5 K a).stop i H/\D.nx Z H)\/((Q5 K a).go i H/\∃N:St->Hp->Prop,(∀Z' H',N Z' H'->∃m',m'<m/\W (i+1) m' Z' H')/\∀x H',(Q5 K a).Jx i H x H'->g x Z H' λZ2 H2=>tb {D with nx:=N,ct:=N,bk:=D.nx} Z2 H2):=by
 refine⟨λi m Z H=>m=xs.length-i/\i<=xs.length/\Pv i Z H,⟨xs.length,by simp,aaI _,h0⟩,?_⟩
 rintro i m Z H ⟨rfl,hi,p⟩
 have q:=hl i Z H hi p
 by_cases jT:i<xs.length
 ·refine .inr ⟨⟨xs,xs[i],q,by simp[jT]⟩,Pv (i+1),λZ' H' p'=>⟨xs.length-(i+1),by omega,rfl,jT,p'⟩,λx H' y=>?_⟩
  obtain⟨e,y⟩:=y
  subst e
  exact hs i x Z _ (y xs q) p
 ·have e:i=xs.length:=by omega
  subst e
  exact .inl ⟨⟨xs,q,WR _⟩,hd Z H p⟩
theorem jX{lo:Int}{n:Nat}{g:TG}{tb:TS}{D:Ends}{Z:St}{H:Hp}(Pv:Nat->St->Hp->Prop)(h0:Pv 0 Z H)
  (hs:∀i Z H,i<n->Pv i Z H->g (.int (lo+i)) Z H λZ2 H2=>tb {D with nx:=Pv (i+1),ct:=Pv (i+1),bk:=D.nx} Z2 H2) (hd:∀Z H,Pv n Z H->D.nx Z H) :
  ∃W:Nat->Nat->St->Hp->Prop,(∃m,W 0 m Z H)/\∀i m Z H,W i m Z H->
   ((NJ lo n).stop i H/\D.nx Z H)\/((NJ lo n).go i H/\∃N:St->Hp->Prop,(∀Z' H',N Z' H'->∃m',m'<m/\W (i+1) m' Z' H')/\∀x H',(NJ lo n).Jx i H x H'->g x Z H' λZ2 H2=>tb {D with nx:=N,ct:=N,bk:=D.nx} Z2 H2):=by
 refine⟨λi m Z H=>m=n-i/\i<=n/\Pv i Z H,⟨n,by simp,aaI _,h0⟩,?_⟩
 rintro i m Z H ⟨rfl,hi,p⟩
 by_cases jT:i<n
 ·refine .inr ⟨jT,Pv (i+1),λZ' H' p'=>⟨n-(i+1),by omega,rfl,jT,p'⟩,λx H' y=>?_⟩
  obtain⟨e,y⟩:=y
  subst e y
  exact hs i Z _ jT p
 ·have e:i=n:=by omega
  subst e
  exact .inl ⟨WR _,hd Z H p⟩
abbrev R2:=V->V->Hp->VK->Prop
def wC(X:Cx)(f:Value->Value->Sem Value)(r:R2):Prop:=
 ∀(c_:Qqz)(s:Shared)(Z:St)(H:Hp)(x y:V)(v u:Value)(Q:VK),Inv X c_ Z H s->RelV x v->RelV y u->r x y H Q->
  wpAny (model X.prog X.w) X.A (f v u) (EP X c_ Z Q) X.xe s
def Wr(X:Cx)(f:Value->Sem Value)(r:V->Hp->VK->Prop):Prop:=
 ∀(c_:Qqz)(s:Shared)(Z:St)(H:Hp)(x:V)(v:Value)(Q:VK),Inv X c_ Z H s->RelV x v->r x H Q->
  wpAny (model X.prog X.w) X.A (f v) (EP X c_ Z Q) X.xe s
def ve(X:Cx)(f:Value)(r:List V->Hp->VK->Prop):Prop:=
 ∀(c_:Qqz)(s:Shared)(Z:St)(H:Hp)(xs:List V)(us:List Value)(Q:VK),Inv X c_ Z H s->Vals xs us->r xs H Q->
  wpAny (model X.prog X.w) X.A (call f us) (EP X c_ Z Q) X.xe s
def Ws(X:Cx)(r:V->Hp->(Bool->Hp->Prop)->Prop):Prop:=
 ∀(c_:Qqz)(s:Shared)(Z:St)(H:Hp)(x:V)(v:Value)(Q:Bool->Hp->Prop),Inv X c_ Z H s->RelV x v->r x H Q->
  wpAny (model X.prog X.w) X.A (truthy v) (TP X c_ Z Q) X.xe s
def RX(r:R2)(ta tb:TE):TE:=λZ H Q=>ta Z H λx H1=>tb Z H1 λy H2=>r x y H2 Q
def tUn(r:V->Hp->VK->Prop)(ta:TE):TE:=λZ H Q=>ta Z H λx H1=>r x H1 Q
inductive rI(C:Int->Int->Prop)(g:Int->Int->V)(x:V)(y:V)(H:Hp)(Q:VK):Prop
 | mk (i j) (_:x=.int i) (_:y=.int j) (_:C i j) (_:Q (g i j) H)
inductive NK(g:Int->Int->V)(x:V)(y:V)(H:Hp)(Q:VK):Prop
 | mk (i j) (_:x=.int i) (_:y=.int j) (_:Q (g i j) H)
def rU(g:Int->V):V->Hp->VK->Prop:=λx H Q=>∃i,x=.int i/\Q (g i) H
section
variable{X:Cx}{a b c:Expr}{ta tb tc:TE}{pos:Pos}
theorem OG(ha:PE X a ta)(hb:PE X b tb){c_:Qqz}{s:Shared}{Z:St}{H:Hp}{R:V->V->Hp->Prop}(I:Inv X c_ Z H s)
  (h:ta Z H λx H1=>tb Z H1 λy H2=>R x y H2) {Q:Qqq} {f:Value->Value->Sem Value}
  (hf:∀v u s2 x y H2,Inv X c_ Z H2 s2->RelV x v->RelV y u->R x y H2->wpAny (model X.prog X.w) X.A (f v u) Q X.xe s2) :
  wpAny (model X.prog X.w) X.A (eval a X.env) (λv s₁=>wpAny (model X.prog X.w) X.A (eval b X.env) (λu s₂=>wpAny (model X.prog X.w) X.A (f v u) Q X.xe s₂) X.xe s₁) X.xe s:=by
 refine i8 (ha c_ s Z H _ I h) λv s1 iJ=>?_
 obtain⟨x,H1,I1,r1,q1⟩:=iJ
 refine i8 (hb c_ s1 Z H1 _ I1 q1) λu s2 iJ=>?_
 obtain⟨y,H2,I2,r2,q2⟩:=iJ
 exact hf v u s2 x y H2 I2 r1 r2 q2
theorem gG{op:Operator}{r:R2}(ho:wC X (binaryOp op) r)(ha:PE X a ta)(hb:PE X b tb):PE X (.BinOp a op b pos) (RX r ta tb):=by
 intro c_ s Z H Q I h
 exact wpAny_BinOp (OG ha hb I h λv u s2 x y H2 I2 rx ry q=>ho c_ s2 Z H2 x y v u Q I2 rx ry q)
theorem xM{op:UnaryOp}{r:V->Hp->VK->Prop}(ho:Wr X (unaryOp op) r)(ha:PE X a ta):PE X (.UnaryOp op a pos) (tUn r ta):=by
 intro c_ s Z H Q I h
 exact UnaryOp_ (i8 (ha c_ s Z H _ I h) λv s1 ⟨x,H1,I1,r1,q1⟩=>ho c_ s1 Z H1 x v Q I1 r1 q1)
theorem Wt{f:Value->Value->Sem Value}{C:Int->Int->Prop}{g:Int->Int->Int}
  (rule:∀(i j:Int)(t u:Tok)(s:Shared)(Q:Qqq)(E:Qqq),C i j->Q (.int (g i j) s.toks) {s with toks:=s.toks+1}->wpAny (model X.prog X.w) X.A (f (.int i t) (.int j u)) Q E s) :
  wC X f (rI C λi j=>.int (g i j)):=by
 intro c_ s Z H x y v u Q I rx ry h
 obtain⟨i,j,rfl,rfl,hc,q⟩:=h
 obtain⟨t,rfl⟩:=rx
 obtain⟨t',rfl⟩:=ry
 exact rule i j t t' s _ _ hc ⟨.int (g i j),H,I.tok _,⟨_,rfl⟩,q⟩
theorem RY{f:Value->Value->Sem Value}{g:Int->Int->Int}
  (rule:∀(i j:Int)(t u:Tok)(s:Shared)(Q:Qqq)(E:Qqq),Q (.int (g i j) s.toks) {s with toks:=s.toks+1}->wpAny (model X.prog X.w) X.A (f (.int i t) (.int j u)) Q E s) :
  wC X f (NK λi j=>.int (g i j)):=by
 intro c_ s Z H x y v u Q I rx ry h
 obtain⟨i,j,rfl,rfl,q⟩:=h
 obtain⟨t,rfl⟩:=rx
 obtain⟨t',rfl⟩:=ry
 exact rule i j t t' s _ _ ⟨.int (g i j),H,I.tok _,⟨_,rfl⟩,q⟩
theorem L4{f:Value->Value->Sem Value}{g:Int->Int->Bool}
  (rule:∀(i j:Int)(t u:Tok)(s:Shared)(Q:Qqq)(E:Qqq),Q (.bool (g i j)) s->wpAny (model X.prog X.w) X.A (f (.int i t) (.int j u)) Q E s) :
  wC X f (NK λi j=>.bl (g i j)):=by
 intro c_ s Z H x y v u Q I rx ry h
 obtain⟨i,j,rfl,rfl,q⟩:=h
 obtain⟨t,rfl⟩:=rx
 obtain⟨t',rfl⟩:=ry
 exact rule i j t t' s _ _ ⟨.bl (g i j),H,I,rfl,q⟩
def Wu(i j:Int):Prop:=0<j/\j<1073741824
def OH(i j:Int):Prop:=(-(2 ^ 64)<i/\i<2 ^ 64)\/(-(2 ^ 64)<j/\j<2 ^ 64)
theorem OH.ok{i j:Int}(h:OH i j):IntMulOk i j:=by
 rcases h with⟨h1,h2⟩|⟨h1,h2⟩
 ·exact .of_left (intBits_le_64 h1 h2)
 ·exact .of_right (intBits_le_64 h1 h2)
theorem iG:wC X (binaryOp .Add) (NK λi j=>.int (i+j)):=RY λ_ _ _ _ _ _ _ q=>add_int q
theorem wH:wC X (binaryOp .Sub) (NK λi j=>.int (i-j)):=RY λ_ _ _ _ _ _ _ q=>sub_int q
theorem rK:wC X (binaryOp .Mult) (rI OH λi j=>.int (i*j)):=Wt λ_ _ _ _ _ _ _ hc q=>mul_int q hc.ok
theorem jU:wC X (binaryOp .FloorDiv) (rI Wu λi j=>.int (i/j)):=Wt λi j _ _ _ _ _ hc q=>by
 have h1:(0:Int)<j:=hc.1
 have h2:j<1073741824:=hc.2
 exact floordiv_int (by omega) (by rw[Int.fdiv_eq_ediv_of_nonneg i (by omega)];exact q) (.inl (PyProof.noPylong_small (by omega)))
theorem iO:wC X (binaryOp .Mod) (rI (λ_ j=>0<j) λi j=>.int (i%j)):=Wt λi j _ _ _ _ _ hc q=>by
 have h1:(0:Int)<j:=hc
 exact mod_int' (by omega) (by rw[Int.fmod_eq_emod_of_nonneg i (by omega)];exact q)
theorem unI{f:Value->Sem Value}{g:Int->Int}
  (rule:∀(i:Int)(t:Tok)(s:Shared)(Q:Qqq)(E:Qqq),Q (.int (g i) s.toks) {s with toks:=s.toks+1}->wpAny (model X.prog X.w) X.A (f (.int i t)) Q E s) :
  Wr X f (rU λi=>.int (g i)):=by
 intro c_ s Z H x v Q I rx h
 obtain⟨i,rfl,q⟩:=h
 obtain⟨t,rfl⟩:=rx
 exact rule i t s _ _ ⟨.int (g i),H,I.tok _,⟨_,rfl⟩,q⟩
theorem rL:Wr X (unaryOp .USub) (rU λi=>.int (-i)):=unI λ_ _ _ _ _ q=>neg_int q
end
noncomputable def OI:V->V->Bool
 | .jg,.jg=>true|.jg,.int _=>true|.int _,.jg=>true|.jg,.bl _=>true|.bl _,.jg=>true|.jg,.str _=>true|.str _,.jg=>true
 | .int _,.int _=>true|.bl _,.bl _=>true|.str _,.str _=>true|.D1 _,.D1 _=>true
 | .int _,.str _=>true|.str _,.int _=>true|.bl _,.str _=>true|.str _,.bl _=>true
 | _,_=>false
noncomputable def rEq:R2:=λx y H Q=>OI x y=true/\Q (.bl (decide (x=y))) H
noncomputable def rNe:R2:=λx y H Q=>OI x y=true/\Q (.bl (!decide (x=y))) H
theorem GV{i j:Int}:decide (V.int i=V.int j)=(i ==j):=by
 rw[aa4]
 simp
theorem Jy{i j:Bool}:decide (V.bl i=V.bl j)=(i ==j):=by
 rw[aa4]
 simp
theorem GW{i j:Str}:decide (V.str i=V.str j)=(i ==j):=by
 rw[aa4]
 simp
theorem GX{i j:Array UInt8}:decide (V.D1 i=V.D1 j)=(i.toList ==j.toList):=by
 rw[aa4]
 cases i
 cases j
 simp
section
variable{X:Cx}{a b c:Expr}{ta tb tc:TE}{pos:Pos}
theorem iU{c_:Qqz}{Z:St}{H:Hp}{s:Shared}{Q:VK}{k k':Bool}(I:Inv X c_ Z H s)(q:Q (.bl k) H)(e:k=k'):EP X c_ Z Q (.bool k') s:=by
 subst e
 exact⟨.bl k,H,I,rfl,q⟩
theorem nF:wC X (compareOp .Eq) rEq:=by
 intro c_ s Z H x y v u Q I rx ry h
 obtain⟨hs,q⟩:=h
 cases x with
 | jg=>
  cases rx
  cases y with
  | jg=>cases ry;exact PySem.EqNone.eq_none_none (iU I q (by simp))
  | bl j=>cases ry;exact PySem.EqNone.eq_none_bool (iU I q (by simp))
  | int j=>obtain⟨t',rfl⟩:=ry;exact PySem.EqNone.eq_none_int (iU I q (by simp))
  | str j=>obtain⟨t',rfl⟩:=ry;exact PySem.EqNone.eq_none_str (iU I q (by simp))
  | _=>exact absurd (show false=true from hs) aae
 | bl i=>
  cases rx
  cases y with
  | jg=>cases ry;exact PySem.EqNone.eq_bool_none (iU I q (by simp))
  | bl j=>cases ry;exact eq_bool (iU I q Jy)
  | str j=>obtain⟨t',rfl⟩:=ry;exact PySem.EqMixed.eq_bool_str (iU I q (by simp))
  | _=>exact absurd (show false=true from hs) aae
 | int i=>
  obtain⟨t,rfl⟩:=rx
  cases y with
  | jg=>cases ry;exact PySem.EqNone.eq_int_none (iU I q (by simp))
  | int j=>obtain⟨t',rfl⟩:=ry;exact eq_int (iU I q GV)
  | str j=>obtain⟨t',rfl⟩:=ry;exact PySem.EqMixed.eq_int_str (iU I q (by simp))
  | _=>exact absurd (show false=true from hs) aae
 | str i=>
  obtain⟨t,rfl⟩:=rx
  cases y with
  | jg=>cases ry;exact PySem.EqNone.eq_str_none (iU I q (by simp))
  | bl j=>cases ry;exact PySem.EqMixed.eq_str_bool (iU I q (by simp))
  | int j=>obtain⟨t',rfl⟩:=ry;exact PySem.EqMixed.eq_str_int (iU I q (by simp))
  | str j=>obtain⟨t',rfl⟩:=ry;exact eq_str (iU I q GW)
  | _=>exact absurd (show false=true from hs) aae
 | D1 i=>
  obtain⟨t,rfl⟩:=rx
  cases y with
  | D1 j=>obtain⟨t',rfl⟩:=ry;exact W.eq_bytes (iU I q GX)
  | _=>exact absurd (show false=true from hs) aae
 | _=>cases y<;>exact absurd (show false=true from hs) aae
theorem GY:wC X (compareOp .NotEq) rNe:=by
 intro c_ s Z H x y v u Q I rx ry h
 obtain⟨hs,q⟩:=h
 cases x with
 | jg=>
  cases rx
  cases y with
  | jg=>cases ry;exact PySem.EqNone.ne_none_none (iU I q (by simp))
  | bl j=>cases ry;exact PySem.EqNone.ne_none_bool (iU I q (by simp))
  | int j=>obtain⟨t',rfl⟩:=ry;exact PySem.EqNone.ne_none_int (iU I q (by simp))
  | str j=>obtain⟨t',rfl⟩:=ry;exact PySem.EqNone.ne_none_str (iU I q (by simp))
  | _=>exact absurd (show false=true from hs) aae
 | bl i=>
  cases rx
  cases y with
  | jg=>cases ry;exact PySem.EqNone.ne_bool_none (iU I q (by simp))
  | bl j=>cases ry;exact ne_bool (iU I q (aaQ not Jy))
  | str j=>obtain⟨t',rfl⟩:=ry;exact PySem.EqMixed.ne_bool_str (iU I q (by simp))
  | _=>exact absurd (show false=true from hs) aae
 | int i=>
  obtain⟨t,rfl⟩:=rx
  cases y with
  | jg=>cases ry;exact PySem.EqNone.ne_int_none (iU I q (by simp))
  | int j=>obtain⟨t',rfl⟩:=ry;exact ne_int (iU I q (aaQ not GV))
  | str j=>obtain⟨t',rfl⟩:=ry;exact PySem.EqMixed.ne_int_str (iU I q (by simp))
  | _=>exact absurd (show false=true from hs) aae
 | str i=>
  obtain⟨t,rfl⟩:=rx
  cases y with
  | jg=>cases ry;exact PySem.EqNone.ne_str_none (iU I q (by simp))
  | bl j=>cases ry;exact PySem.EqMixed.ne_str_bool (iU I q (by simp))
  | int j=>obtain⟨t',rfl⟩:=ry;exact PySem.EqMixed.ne_str_int (iU I q (by simp))
  | str j=>obtain⟨t',rfl⟩:=ry;exact ne_str (iU I q (aaQ not GW))
  | _=>exact absurd (show false=true from hs) aae
 | D1 i=>
  obtain⟨t,rfl⟩:=rx
  cases y with
  | D1 j=>obtain⟨t',rfl⟩:=ry;exact W.ne_bytes (iU I q (aaQ not GX))
  | _=>exact absurd (show false=true from hs) aae
 | _=>cases y<;>exact absurd (show false=true from hs) aae
theorem GZ:wC X (compareOp .Lt) (NK λi j=>.bl (decide (i<j))):=L4 λ_ _ _ _ _ _ _ q=>lt_int q
theorem Jz:wC X (compareOp .LtE) (NK λi j=>.bl (decide (i<=j))):=L4 λ_ _ _ _ _ _ _ q=>le_int q
theorem Bw:wC X (compareOp .Gt) (NK λi j=>.bl (decide (j<i))):=L4 λ_ _ _ _ _ _ _ q=>gt_int q
theorem RZ:wC X (compareOp .GtE) (NK λi j=>.bl (decide (j<=i))):=L4 λ_ _ _ _ _ _ _ q=>ge_int q
theorem Cm:wC X (compareOp .NotIn) (λx y H Q=>∃i j,x=.str i/\y=.str j/\Q (.bl (!(!(Builtin.Str.occurrences j i 0 j.length 1).isEmpty))) H):=by
 intro c_ s Z H x y v u Q I rx ry h
 obtain⟨i,j,rfl,rfl,q⟩:=h
 obtain⟨t,rfl⟩:=rx
 obtain⟨t',rfl⟩:=ry
 exact notIn_str (iU I q rfl)
theorem iP(b:Expr){op:CmpOp}(h:op≠.In:=by decide)(h2:op≠.NotIn:=by decide):behindInMarks op b=false:=by
 have e1:(op ==CmpOp.In)=false:=by cases op<;>first|rfl|exact absurd rfl h
 have e2:(op ==CmpOp.NotIn)=false:=by cases op<;>first|rfl|exact absurd rfl h2
 cases b<;>simp[behindInMarks,e1,e2]
theorem L5{op:CmpOp}{r:R2}(ho:wC X (compareOp op) r)(ha:PE X a ta)(hb:PE X b tb)(hm:behindInMarks op b=false):PE X (.Compare a [op] [b] pos) (RX r ta tb):=by
 intro c_ s Z H Q I h
 exact wpAny_Compare1 (OG ha hb I h λv u s2 x y H2 I2 rx ry q=>ho c_ s2 Z H2 x y v u Q I2 rx ry q) hm
def NL(t:TE):TT:=λZ H Q=>t Z H λx H'=>bK x H' Q
theorem ij{op:CmpOp}{r:R2}(ho:wC X (compareOp op) r)(ha:PE X a ta)(hb:PE X b tb)(hm:behindInMarks op b=false):PT X (.Compare a [op] [b] pos) (NL (RX r ta tb)):=by
 intro c_ s Z H Q I h
 refine wpAny_isTrue_Compare1 (i8 (ha c_ s Z H _ I h) λv s1 ⟨x,H1,I1,r1,q1⟩=>i8 (hb c_ s1 Z H1 _ I1 q1) λu s2 ⟨y,H2,I2,r2,q2⟩=>
  i8 (ho c_ s2 Z H2 x y v u _ I2 r1 r2 q2) λc s3 ⟨z,H3,I3,r3,k,e,q3⟩=>?_) hm
 subst e
 cases r3
 exact abu ⟨H3,I3,q3⟩
def OJ(r r':R2)(ta tb tc:TE):TE:=λZ H Q=>ta Z H λx H1=>tb Z H1 λy H2=>r x y H2 λz H3=>∃k,z=.bl k/\
 (if k=true then tc Z H3 λw' H4=>r' y w' H4 Q else Q (.bl false) H3)
theorem D9{op Xf:CmpOp}{r r':R2}(ho:wC X (compareOp op) r)(pI:wC X (compareOp Xf) r')(ha:PE X a ta)(hb:PE X b tb)(hc:PE X c tc)
  (hm:lastMarks [op,Xf] [b,c]=false:=by with_unfolding_all rfl):PT X (.Compare a [op,Xf] [b,c] pos) (NL (OJ r r' ta tb tc)):=by
 intro c_ s Z H Q I h
 refine isTrue_chain (i8 (ha c_ s Z H _ I h) λv s1 ⟨x,H1,I1,r1,q1⟩=>test_link (i8 (hb c_ s1 Z H1 _ I1 q1) λu s2 ⟨y,H2,I2,r2,q2⟩=>
  i8 (ho c_ s2 Z H2 x y v u _ I2 r1 r2 q2) λd s3 ⟨z,H3,I3,r3,k,e,q3⟩=>?_)) hm
 subst e
 cases r3
 refine abu ?_
 cases k with
 | false=>
  obtain⟨k',e',q'⟩:=q3
  cases e'
  exact ite_ff ⟨H3,I3,q'⟩
 | true=>
  refine ite_tt (test_last (i8 (hc c_ s3 Z H3 _ I3 q3) λw' s4 iJ=>?_))
  obtain⟨z',H4,I4,r4,q4⟩:=iJ
  refine i8 (pI c_ s4 Z H4 y z' u w' _ I4 r2 r4 q4) λd' s5 Jf=>?_
  obtain⟨z2,H5,I5,r5,k2,e2,q5⟩:=Jf
  subst e2
  cases r5
  exact abu ⟨H5,I5,q5⟩
def R0(K:Qqy)(x:V)(H:Hp)(k:Bool):Prop:=
 match x with
 | .jg=>k=false
 | .bl b=>k=b
 | .int i=>k=(i != 0)
 | .str y=>y.length<=sizeLine/\k=((y.length:Int) != 0)
 | .D1 y=>y.size<=sizeLine/\k=((y.size:Int) != 0)
 | .ref p=>(∃xs,gO K H p xs/\k=!xs.isEmpty)\/(∃xs,pf K H p xs/\k=!xs.isEmpty)\/∃kvs,H p=some (.dK kvs)/\k=!kvs.isEmpty
 | _=>False
theorem Fz{Z:Type}{kvs:List (Z×V)}{vs:List (Z×Value)}(r:KV kvs vs):(!vs.isEmpty)=!kvs.isEmpty:=by
 cases r<;>rfl
theorem zo{xs:List V}{gU:List Value}(r:Vals xs gU):(!gU.toArray.isEmpty)=!xs.isEmpty:=by
 cases r<;>simp
theorem ux:(sizeLine:Nat)<2 ^ 63:=by rw[acm];decide
theorem OK:Ws X (λx H Q=>∃k,R0 X.K x H k/\Q k H):=by
 intro c_ s Z H x v Q I rx h
 obtain⟨k,e,q⟩:=h
 have hl:=ux
 have hs:sizeLine=16777216:=acm
 cases x with
 | jg=>
  cases rx
  have e':k=false:=e
  subst e'
  exact truthy_none ⟨H,I,q⟩
 | bl b=>
  cases rx
  have e':k=b:=e
  subst e'
  exact abu ⟨H,I,q⟩
 | int i=>
  obtain⟨t,rfl⟩:=rx
  have e':k=(i != 0):=e
  subst e'
  exact PySem.P.truthy_int ⟨H,I,q⟩
 | str y=>
  obtain⟨t,rfl⟩:=rx
  obtain⟨hy,e'⟩:y.length<=sizeLine/\k=((y.length:Int) != 0):=e
  subst e'
  exact PySem.P.truthy_str (by omega) ⟨H,I.tok _,q⟩
 | D1 y=>
  obtain⟨t,rfl⟩:=rx
  obtain⟨hy,e'⟩:y.size<=sizeLine/\k=((y.size:Int) != 0):=e
  subst e'
  exact W.truthy_bytes (by omega) ⟨H,I.tok _,q⟩
 | ref p=>
  cases rx
  have e':(∃xs,gO X.K H p xs/\k=!xs.isEmpty)\/(∃xs,pf X.K H p xs/\k=!xs.isEmpty)\/∃kvs,H p=some (.dK kvs)/\k=!kvs.isEmpty:=e
  rcases e' with⟨xs,hx,e'⟩|⟨xs,hx,e'⟩|⟨kvs,hx,e'⟩
  ·subst e'
   obtain⟨gU,r,pl,hz⟩:=I.list hx
   have hlen:=r.length
   exact wpAny_truthy_list pl.isList (by simp only [aag];omega) ⟨H,I.tok _,by rw[zo r];exact q⟩
  ·subst e'
   obtain⟨gU,r,pl,hz⟩:=I.tuple hx
   have hlen:=r.length
   exact truthy_tuple pl (by simp only [aag];omega) ⟨H,I.tok _,by rw[zo r];exact q⟩
  ·subst e'
   obtain⟨hz,hS,vs,r,m⟩:kvs.length<=sizeLine/\(p ==sysModules)=false/\∃vs,KV kvs vs/\s.heap.DictOf (ji X.prog X.w) p vs:=I.iM p _ hx
   have hlen:kvs.length=vs.length:=aak r
   exact wpAny_truthy_dict hS m (by omega) ⟨H,I.tok _,by rw[Fz r];exact q⟩
 | _=>exact(show False from e).elim
theorem vg(ha:PE X a ta)(he:∀whole,isTrue a X.env whole=(do let v <-whole;standAt a.pos;holding [v] (truthy v))) :
  PT X a (λZ H Q=>ta Z H λx H'=>∃k,R0 X.K x H' k/\Q k H'):=by
 intro c_ s Z H Q I h
 exact isTrue_plain (i8 (ha c_ s Z H _ I h) λv s1 ⟨x,H1,I1,r1,q1⟩=>OK c_ s1 Z H1 x v Q I1 r1 q1) (he _)
theorem zp:wC X (binaryOp .Add) (λx y H Q=>∃i j,x=.str i/\y=.str j/\i.length+j.length<=sizeLine/\Q (.str (i++j)) H):=by
 intro c_ s Z H x y v u Q I rx ry h
 obtain⟨i,j,rfl,rfl,hz,q⟩:=h
 obtain⟨t,rfl⟩:=rx
 obtain⟨t',rfl⟩:=ry
 exact add_str (λt' tk=>⟨.str (i++j),H,I.tok _,⟨_,rfl⟩,q⟩) hz
theorem vals1{x:V}{us:List Value}(r:Vals [x] us):∃u,us=[u]/\RelV x u:=by
 cases r with
 | cons r1 r2=>cases r2;exact⟨_,rfl,r1⟩
theorem vals2{x y:V}{us:List Value}(r:Vals [x,y] us):∃u w',us=[u,w']/\RelV x u/\RelV y w':=by
 cases r with
 | cons r1 r2=>
  cases r2 with
  | cons r3 r4=>cases r4;exact⟨_,_,rfl,r1,r3⟩
theorem HV(hc:X.calm=true):ve X (.builtin "max") (λxs H Q=>∃i j,xs=[.int i,.int j]/\Q (.int (if j>i then j else i)) H):=by
 intro c_ s Z H xs us Q I r h
 obtain⟨i,j,rfl,q⟩:=h
 obtain⟨u,w',rfl,⟨t,rfl⟩,⟨t',rfl⟩⟩:=vals2 r
 refine max_two_ints (I.ok.hd hc) λh' tk k=>⟨_,H,I.kept k,?_,q⟩
 by_cases hj:j>i
 ·rw[aan hj,aan hj];exact⟨_,rfl⟩
 ·rw[aac hj,aac hj];exact⟨_,rfl⟩
end
structure FA(h:Heap)(x dx C:Addr)(mA:Qqx):Prop where
 obj:h.get? x=some (W.instObj C dx)
 ns:h.Ns1 dx mA
 ne:dx≠x
theorem HW{h:Heap}{dx:Addr}{mA:Qqx}(n:h.Ns1 dx mA):∃od,h.get? dx=some od/\∀name,W.lookIn name od=some (mA name):=by
 obtain⟨o,es,ep,ho,hd,hk,_,hm⟩:=n
 refine⟨o,ho,λname=>?_⟩
 have e:=hm name
 unfold nsFind findBy at e
 rw[<-Array.find?_toList] at e
 unfold W.lookIn
 rw[hd]
 dsimp only
 split
 ·rename_i y q
  rw[q] at e
  exact aaQ some e
 ·rename_i q
  rw[q] at e
  have a:es.toList.any (·.refKey)=false:=by
   rw[List.any_eq_false]
   intro y hy
   obtain⟨z,t,Qn⟩:=hk y (Array.mem_toList_iff.mp hy)
   simp[DictEntry.refKey,Qn]
  have a':¬es.toList.any (·.refKey)=true:=by rw[a];exact aae
  rw[aac a']
  exact aaQ some e
theorem FA.look{h:Heap}{x dx C:Addr}{mA:Qqx}(I:FA h x dx C mA):∃od,W.InstAt h x (W.instObj C dx) C (some od)/\∀name,W.lookIn name od=some (mA name):=
 let ⟨od,ho,hl⟩:=HW I.ns
 ⟨od,⟨I.obj,rfl,rfl,ho⟩,hl⟩
section
variable{prog:Program}{w:World}{A:Around}{E:Qqq}{s:Shared}{K:Qqy}{x dx C f:Addr}{mA:Qqx}{name:Str}{v:Value}
theorem get_map{expr:Bool}{Q:Qqq}(X:K.In s.heap)(I:FA s.heap x dx C mA)(hg:W.plainGet K C name=true)(hh:W.hasDictIn K C=true)
  (ha:W.findIn K (.ref C) name=some none) (hv:mA name=some v) (Xg:W.handedIn v=true) (h:Q v {s with toks:=s.toks+1}) :
  wpAny (model prog w) A (getAttr (.ref x) name expr) Q E s:=by
 obtain⟨od,J,hl⟩:=I.look
 exact W.get_value X J (W.plainGet_of hg).1 (W.findObj_own hh ha rfl (by rw[hl,hv])) Xg h
theorem JA{pl:Sem Bool}{Q:Value×List Value->Shared->Prop}(X:K.In s.heap)(I:FA s.heap x dx C mA)(hg:W.plainGet K C name=true)
  (hf:W.findIn K (.ref C) name=some (some (.ref f))) (ht:W.isFn K (.ref f)=true) (hv:mA name=none) (h:Q (.ref f,[.ref x]) s) :
  wpAny (model prog w) A (getMethod (.ref x) name pl) Q E s:=by
 obtain⟨od,J,hl⟩:=I.look
 exact W.method_fn X J (W.plainGet_of hg).1 (W.plainGet_of hg).2 hf (abS.mp ht) (by show(W.lookIn name od).map (·.isSome)=some false;rw[hl,hv];rfl) h
theorem L6{ns:List Str}{Q:Unit->Shared->Prop}(X:K.In s.heap)(I:FA s.heap x dx C mA)
  (hs:W.findIn K (.ref C) "__setattr__"=some (some (.builtin "object.__setattr__"))) (hp:W.plainOver K C=true) (ht:W.takerIn K C name=some none) (hh:W.hasDictIn K C=true)
  (hw:PySem.Within mA ns) (hsz:ns.length<=sizeLine)
  (h:∀h',FA h' x dx C (λy=>if y=name then some v else mA y)->Heap.SameBut dx s.heap h'->Q () {s with heap:=h',toks:=s.toks+2}) :
  wpAny (model prog w) A (setAttr (.ref x) name v) Q E s:=by
 obtain⟨od,J,hl⟩:=I.look
 refine W.set_plain X J hs (W.osa_open (s:={s with toks:=s.toks+1}) (r:=none) X J hp ht λb=>?_)
 obtain⟨cd,hc,Ta⟩:=W.any_some hh
 have hx:s.heap.get? x=some ⟨.ref C,some dx,.plain,#[]⟩:=I.obj
 refine TN (aaf (TN (TN (wpAny_loadPart hx (TN (W.Looks.here (s:={s with toks:=s.toks+1}) (W.looks_clsIn X hc) ?_))))))
 rw[Ta]
 refine aaf (a:=some dx) (TN (aaf (TN ?_)))
 refine wpAny_nsSet1 (s:={s with toks:=s.toks+1}) I.ns λh' Qo Jm=>?_
 obtain⟨oD,esD,epD,hoD,hdD,hcD⟩:=Qo.count (PySem.Within.cons name v hw)
 refine TN (wpAny_lookBehind hoD (by rw[hdD];exact pastItsLine_dict (aai hcD (by rw[ZY];omega))) ?_)
 exact aaf (h _ ⟨(Jm.2 _ (abD I.ne)).trans I.obj,Qo,I.ne⟩ Jm)
theorem JB{R:Result->Shared->Prop}{vs:List Value}{kw:List (Str×Value)}(X:K.In s.heap)(hm:W.makesIn K C=true)
  (hi:W.findIn K (.ref C) "__init__"=some (some (.ref f))) (hf:W.typeIn K (.ref f)=some (.type "function"))
  (h:codeAny (model prog w) (A.under (.builtin "type.__call__" ⟨.ref C::vs,kw⟩)) (.call (.ref f) ⟨.ref (s.heap.objs.size+1)::vs,kw⟩) (W.InitBack (s.heap.objs.size+1) R)
   {s with heap:=(s.heap.push W.emptyDict).push (W.instObj C s.heap.objs.size)}) :
  codeAny (model prog w) A (.call (.ref C) ⟨vs,kw⟩) R s:=by
 obtain⟨hh,g,d,t,os⟩:=s
 exact W.make_core (W.makes_of X hm) (W.looks_findIn X hi) (λself=>W.bind_fn X self hf) (.inl rfl) h
end
noncomputable def jG(f:Str)(v:V):List (Str×V)->List (Str×V)
 | []=>[(f,v)]
 | (g,x)::r=>if g=f then(g,v)::r else(g,x)::jG f v r
theorem xN(f g:Str)(v:V):∀fs:List (Str×V),(jG f v fs).lookup g=if g=f then some v else fs.lookup g
 | []=>by
  show List.lookup g [(f,v)]=_
  by_cases h:g=f
  ·have hb:(g ==f)=true:=abS.mpr h
   simp only [List.lookup,hb,aan h]
  ·have hb:(g ==f)=false:=beq_eq_false_iff_ne.mpr h
   simp only [List.lookup,hb,aac h]
 | (k,x)::r=>by
  have ih:=xN f g v r
  rw[show jG f v ((k,x)::r)=(if k=f then(k,v)::r else(k,x)::jG f v r) from rfl]
  by_cases hk:k=f
  ·rw[aan hk]
   by_cases h:g=k
   ·have hb:(g ==k)=true:=abS.mpr h
    simp only [List.lookup,hb,aan (h.trans hk)]
   ·have hb:(g ==k)=false:=beq_eq_false_iff_ne.mpr h
    simp only [List.lookup,hb,aac (λe:g=f=>h (e.trans hk.symm))]
  ·rw[aac hk]
   by_cases h:g=k
   ·have hb:(g ==k)=true:=abS.mpr h
    simp only [List.lookup,hb,aac (λe:g=f=>hk (h.symm.trans e))]
   ·have hb:(g ==k)=false:=beq_eq_false_iff_ne.mpr h
    simp only [List.lookup,hb]
    exact ih
theorem wI(f:Str)(v:V):∀fs:List (Str×V),f∈(jG f v fs).map (·.1)/\∀g,g∈fs.map (·.1)->g∈(jG f v fs).map (·.1)
 | []=>⟨by simp[jG],λg h=>by simp at h⟩
 | (k,x)::r=>by
  obtain⟨i1,i2⟩:=wI f v r
  rw[show jG f v ((k,x)::r)=(if k=f then(k,v)::r else(k,x)::jG f v r) from rfl]
  by_cases hk:k=f
  ·rw[aan hk]
   subst hk
   exact⟨by simp,λg h=>by simpa using h⟩
  ·rw[aac hk]
   refine⟨?_,λg h=>?_⟩
   ·rw[aat]
    exact aaa _ i1
   ·rw[aat] at h ⊢
    rcases XH.mp h with e|e
    ·exact XH.mpr (.inl e)
    ·exact aaa _ (i2 g e)
theorem xO(f:Str)(v:V):∀fs:List (Str×V),(jG f v fs).length<=fs.length+1
 | []=>by simp[jG]
 | (k,x)::r=>by
  have ih:=xO f v r
  rw[show jG f v ((k,x)::r)=(if k=f then(k,v)::r else(k,x)::jG f v r) from rfl]
  by_cases hk:k=f
  ·rw[aan hk,ZY,ZY];omega
  ·rw[aac hk,ZY,ZY];omega
theorem pM.some_of{v:V}{o:Option Value}(r:pM (some v) o):∃u,o=some u/\RelV v u:=by
 cases o with
 | none=>exact(show False from r).elim
 | some u=>exact⟨u,rfl,r⟩
theorem pM.none_of{o:Option Value}(r:pM none o):o=none:=by
 cases o with
 | none=>rfl
 | some u=>exact(show False from r).elim
theorem HX{v:V}{u:Value}(r:RelV v u):W.handedIn u=true:=by
 cases v with
 | jg=>cases (show u=Value.none from r);rfl
 | bl b=>cases (show u=Value.bool b from r);rfl
 | int i=>obtain⟨t,e⟩:=(show ∃t,u=Value.int i t from r);cases e;rfl
 | str x=>obtain⟨t,e⟩:=(show ∃t,u=Value.str x t from r);cases e;rfl
 | D1 b=>obtain⟨t,e⟩:=(show ∃t,u=Value.bytes b t from r);cases e;rfl
 | LK b=>obtain⟨t,e⟩:=(show ∃t,u=Value.float b t from r);cases e;rfl
 | ref a=>cases (show u=Value.ref a from r);rfl
 | ty n=>cases (show u=Value.type n from r);rfl
section
variable{P:Program}{w:World}{H H':Hp}{h h':Heap}{a C dx:Addr}{fs fs':List (Str×V)}
theorem y6(iM:rD P w H h)(e:H a=some (.ins C dx fs)):∃mA,FA h a dx C mA/\(∀f,pM (fs.lookup f) (mA f))/\PySem.Within mA (fs.map (·.1))/\fs.length<=1000/\H dx=some (.own a):=by
 obtain⟨d,z,ne,ob,mA,n,r,q⟩:=(show i7 P w H h a (.ins C dx fs) from iM a _ e)
 exact⟨mA,⟨ob,n,ne⟩,r,q,z,d⟩
end
structure Fx(K:Qqy)(C:Addr):Prop where
 pg:W.plainGet K C Str.empty=true
 hd:W.hasDictIn K C=true
 po:W.plainOver K C=true
 sa:W.findIn K (.ref C) "__setattr__"=some (some (.builtin "object.__setattr__"))
theorem Fx.get{K:Qqy}{C:Addr}(c:Fx K C)(f:Str):W.plainGet K C f=true:=c.pg
def jY(K:Qqy)(C:Addr)(f:Str):Prop:=W.findIn K (.ref C) f=some none
theorem jY.R1{K:Qqy}{C:Addr}{f:Str}(n:jY K C f):W.takerIn K C f=some none:=by
 unfold W.takerIn
 rw[show W.findIn K (.ref C) f=some none from n]
 rfl
structure Meth(K:Qqy)(C:Addr)(m:Str)(f:Addr):Prop where
 at_:W.findIn K (.ref C) m=some (some (.ref f))
 fn:W.isFn K (.ref f)=true
 kp:W.keepIn K (.ref f)=true
section
variable{X:Cx}{c_:Qqz}{Z:St}{H:Hp}{s:Shared}{a C dx:Addr}{fs:List (Str×V)}{f:Str}{v:V}{A:Around}{E:Qqq}
theorem FC{b:Bool}{Q:Qqq}(I:Inv X c_ Z H s)(e:H a=some (.ins C dx fs))(c:Fx X.K C)(n:jY X.K C f)(l:fs.lookup f=some v)
  (h:∀u s',Inv X c_ Z H s'->RelV v u->Q u s'):wpAny (model X.prog X.w) A (getAttr (.ref a) f b) Q E s:=by
 obtain⟨mA,O,r,_,_,_⟩:=y6 I.iM e
 obtain⟨u,hu,ru⟩:=pM.some_of (v:=v) (o:=mA f) (by rw[<-l];exact r f)
 exact get_map I.xK O (c.get f) c.hd n hu (HX ru) (h u _ (I.tok _) ru)
theorem zq{m:Str}{g:Addr}{pl:Sem Bool}{Q:Value×List Value->Shared->Prop}(I:Inv X c_ Z H s)(e:H a=some (.ins C dx fs))(c:Fx X.K C)(k:Meth X.K C m g)(l:fs.lookup m=none)
  (h:Q (.ref g,[.ref a]) s):wpAny (model X.prog X.w) A (getMethod (.ref a) m pl) Q E s:=by
 obtain⟨mA,O,r,_,_,_⟩:=y6 I.iM e
 have hn:mA m=none:=pM.none_of (by rw[<-l];exact r m)
 exact JA I.xK O (c.get m) k.at_ k.fn hn h
theorem FD{y:V}{u:Value}{Q:Unit->Shared->Prop}(I:Inv X c_ Z H s)(e:H a=some (.ins C dx fs))(c:Fx X.K C)(n:jY X.K C f)(hl:fs.length<1000)(ry:RelV y u)
  (h:∀s',Inv X c_ Z (upd H a (.ins C dx (jG f y fs))) s'->Q () s'):wpAny (model X.prog X.w) A (setAttr (.ref a) f u) Q E s:=by
 obtain⟨mA,O,r,wi,_,ho⟩:=y6 I.iM e
 have hz:(fs.map (·.1)).length<=sizeLine:=by rw[Ob,acm];omega
 refine L6 I.xK O c.sa c.po n.R1 c.hd wi hz λh' O' sb=>h _ ?_
 have hd:∃o,h'.get? dx=some o:=let ⟨o,_,_,e',_⟩:=O'.ns;⟨o,e'⟩
 refine I.write (x:=a) (e:=dx) (by rw[e];exact True.intro) (.inr ho) (λb q hb z=>(sb.2 b hb).trans z) hd ?_
 refine⟨by rw[e_ O.ne];exact ho,?_,O.ne,O'.obj,_,O'.ns,λg=>?_,λg hg=>?_⟩
 ·have:=xO f y fs;omega
 ·show pM ((jG f y fs).lookup g) (if g=f then some u else mA g)
  rw[xN]
  by_cases q:g=f
  ·rw[aan q,aan q];exact ry
  ·rw[aac q,aac q];exact r g
 ·by_cases q:g=f
  ·rw[q];exact(wI f y fs).1
  ·refine(wI f y fs).2 g (wi g λz=>hg ?_)
   show(if g=f then some u else mA g)=none
   rw[aac q];exact z
theorem Inv.made(I:Inv X c_ Z H s):Inv X c_ Z (upd (upd H s.heap.objs.size (.own (s.heap.objs.size+1))) (s.heap.objs.size+1) (.ins C s.heap.objs.size []))
  {s with heap:=(s.heap.push W.emptyDict).push (W.instObj C s.heap.objs.size)}:=by
 have e1:(s.heap.push W.emptyDict).get? s.heap.objs.size=some W.emptyDict:=aax s.heap rfl
 have e2:((s.heap.push W.emptyDict).push (W.instObj C s.heap.objs.size)).get? (s.heap.objs.size+1)=some (W.instObj C s.heap.objs.size):=by
  have:=aax (s.heap.push W.emptyDict) (o:=W.instObj C s.heap.objs.size) rfl
  rwa [Heap.size_push] at this
 have e3:(s.heap.push W.emptyDict).Ns s.heap.objs.size (λ_=>none):=⟨W.emptyDict,#[],_,e1,rfl,(λe he=>absurd he (by simp)),λ_=>rfl⟩
 have I1:=I.laid (a:=s.heap.objs.size) (o:=.own (s.heap.objs.size+1)) (h':=s.heap.push W.emptyDict) (t':=s.toks) (λb u q=>aaj _ q) (WR _) ⟨_,e1⟩
 refine I1.laid (a:=s.heap.objs.size+1) (o:=.ins C s.heap.objs.size []) (t':=s.toks) (λb u q=>aaj _ q) (Nat.le_of_eq (Heap.size_push _ _)) ?_
 have ne:s.heap.objs.size≠s.heap.objs.size+1:=aaJ (acf _)
 refine⟨by rw[e_ ne,b_],aaI _,ne,e2,λ_=>none,(Heap.Ns1.of_empty e3).at λo q=>aaj _ q,λ_=>True.intro,λy hy=>absurd rfl hy⟩
theorem L7{prog:Program}{w:World}{env:Env}{e:Expr}{f:Str}{pos:Pos}{s:Shared}{Q:Qqq}(hb:attributeBase e f env (eval e env)=eval e env)
  (h:wpAny (model prog w) A (eval e env) (λo s1=>wpAny (model prog w) A (getAttr o f true) Q E s1) E s):wpAny (model prog w) A (eval (.Attribute e f pos) env) Q E s:=
 Attribute_any_ h (by rw[arm_eval_Attribute,hb])
end
inductive fK(K:Qqy)(f:Str)(x:V)(H:Hp)(Q:VK):Prop
 | mk (a C dx:Addr) (fs:List (Str×V)) (v:V) (_:x=.ref a) (_:H a=some (.ins C dx fs)) (_:Fx K C) (_:jY K C f) (_:fs.lookup f=some v) (_:Q v H)
def Wv(K:Qqy)(ta:TE)(f:Str):TE:=λZ H Q=>ta Z H λx H1=>fK K f x H1 Q
def Ww(K:Qqy)(ta tv:TE)(f:Str):TS:=λD Z H=>tv Z H λy H1=>ta Z H1 λx H2=>∃a C dx fs,x=.ref a/\H2 a=some (.ins C dx fs)/\Fx K C/\jY K C f/\fs.length<1000/\
 D.nx Z (upd H2 a (.ins C dx (jG f y fs)))
section
variable{X:Cx}{o e value:Expr}{f:Str}{pos pos' Qp:Pos}{ta tv:TE}
theorem gK(he:PE X e ta)(hb:attributeBase e f X.env (eval e X.env)=eval e X.env):PE X (.Attribute e f pos) (Wv X.K ta f):=by
 intro c_ s Z H Q I h
 refine L7 hb (i8 (he c_ s Z H _ I h) λu s1 iJ=>?_)
 obtain⟨x,H1,I1,rx,a,C,dx,fs,v,ex,ea,c,n,l,q⟩:=iJ
 subst ex
 obtain rfl:u=Value.ref a:=rx
 exact FC I1 ea c n l λu' s2 I2 ru=>⟨v,H1,I2,ru,q⟩
theorem lE(ha:PE X o ta)(hv:PE X value tv)(hs:swapsWith value (some (.Attribute o f pos')) pos.line X.env=pure false):PS X (.Assign [.Attribute o f pos'] value pos) (Ww X.K ta tv f):=by
 intro c_ s Z H D I h
 refine plainObj_wpAny_Assign_Attribute (i8 (hv c_ s Z H _ I h) λu s1 iJ=>?_) hs
 obtain⟨y,H1,I1,ry,q⟩:=iJ
 refine i8 (ha c_ s1 Z H1 _ I1 q) λov s2 Jf=>?_
 obtain⟨x,H2,I2,rx,a,C,dx,fs,ex,ea,c,n,l,q2⟩:=Jf
 subst ex
 obtain rfl:ov=Value.ref a:=rx
 exact FD I2 ea c n l ry λs3 I3=>⟨Z,_,I3,q2⟩
end
section
variable{X:Cx}{c_:Qqz}{Z:St}{H:Hp}{s:Shared}{A:Around}{E:Qqq}{Q:Qqq}{c:Value}{b:Bool}
inductive wJ(K:Qqy)(H:Hp):V->Value->Prop where
 | jg:wJ K H .jg (.type "NoneType")
 | bl (x:Bool):wJ K H (.bl x) (.type "bool")
 | int (i:Int):wJ K H (.int i) (.type "int")
 | str (x:Str):wJ K H (.str x) (.type "str")
 | LK (x:UInt64):wJ K H (.LK x) (.type "float")
 | lst {a:Addr} {xs:List V} (e:H a=some (.lst xs)):wJ K H (.ref a) (.type "list")
 | nB {a:Addr} {o:Obj} {xs:List V} (e:H a=some (.nB o (.lst xs))):wJ K H (.ref a) (.type "list")
 | tup {a:Addr} {xs:List V} (e:H a=some (.tup xs)):wJ K H (.ref a) (.type "tuple")
 | dK {a:Addr} {kvs:List (Key×V)} (e:H a=some (.dK kvs)):wJ K H (.ref a) (.type "dict")
 | dT {a:Addr} {kvs:List (List Key×V)} (e:H a=some (.dT kvs)):wJ K H (.ref a) (.type "dict")
 | ins {a C dx:Addr} {fs:List (Str×V)} (e:H a=some (.ins C dx fs)) (cl:Fx K C) (ha:W.findIn K (.ref C) "__class__"=some (some (.builtin "object.__class__")))
  (hn:W.specialIn K (.builtin "object.__class__") "__get__"=some (some (.builtin "getset_descriptor.__get__"))) (Z7:W.takesIn K (.builtin "object.__class__")=some true)
  (hm:W.mroIn K C (.type "object")=some true):wJ K H (.ref a) (.ref C)
theorem HY{x:V}{u t:Value}(I:Inv X c_ Z H s)(rx:RelV x u)(ty:wJ X.K H x t)(e:W.kitOne X.K t c=some b)(h:∀tk,Q (.bool b) {s with toks:=tk}) :
  wpAny (model X.prog X.w) A (call (.builtin "isinstance") [u,c]) Q E s:=by
 cases ty with
 | jg=>cases (show u=Value.none from rx);exact abg W.kitx_none I.xK True.intro e (λz=>nomatch z) h
 | bl y=>cases (show u=Value.bool y from rx);exact abg W.kitx_bool I.xK True.intro e (λz=>nomatch z) h
 | int i=>obtain⟨t,q⟩:=(show ∃t,u=Value.int i t from rx);cases q;exact abg W.kitx_int I.xK True.intro e (λz=>nomatch z) h
 | str y=>obtain⟨t,q⟩:=(show ∃t,u=Value.str y t from rx);cases q;exact abg W.kitx_str I.xK True.intro e (λz=>nomatch z) h
 | LK y=>obtain⟨t,q⟩:=(show ∃t,u=Value.float y t from rx);cases q;exact abg W.kitx_float I.xK True.intro e (λz=>nomatch z) h
 | @lst a xs ea=>
  cases (show u=Value.ref a from rx)
  obtain⟨_,_,n,_,h1⟩:=(show i7 X.prog X.w H s.heap a (.lst xs) from I.iM a _ ea)
  exact abg W.kitx_list I.xK ⟨_,h1,rfl⟩ e (λz=>nomatch z) h
 | @nB a ob xs ea=>
  cases (show u=Value.ref a from rx)
  obtain⟨_,_,_,n,_,h1⟩:=(show i7 X.prog X.w H s.heap a (.nB ob (.lst xs)) from I.iM a _ ea)
  exact abg W.kitx_list I.xK ⟨_,h1,rfl⟩ e (λz=>nomatch z) h
 | @tup a xs ea=>
  cases (show u=Value.ref a from rx)
  obtain⟨_,_,_,p⟩:=(show i7 X.prog X.w H s.heap a (.tup xs) from I.iM a _ ea)
  obtain⟨o,h1,h2,_⟩:=p
  exact abg W.kitx_tuple I.xK ⟨o,h1,h2⟩ e (λz=>nomatch z) h
 | @dK a kvs ea=>
  cases (show u=Value.ref a from rx)
  obtain⟨_,_,vs,_,p⟩:=(show i7 X.prog X.w H s.heap a (.dK kvs) from I.iM a _ ea)
  obtain⟨o,es,ep,h1,h2,_⟩:=p
  exact abg W.kitx_dict I.xK ⟨o,h1,h2.1⟩ e (λz=>nomatch z) h
 | @dT a kvs ea=>
  cases (show u=Value.ref a from rx)
  obtain⟨_,_,xs,_,o,es,ep,h1,h2,_⟩:=(show i7 X.prog X.w H s.heap a (.dT kvs) from I.iM a _ ea)
  exact abg W.kitx_dict I.xK ⟨o,h1,h2.1⟩ e (λz=>nomatch z) h
 | @ins a C dx fs ea cl ha hn Z7 hm=>
  cases (show u=Value.ref a from rx)
  obtain⟨mA,O,_⟩:=y6 I.iM ea
  obtain⟨od,J,_⟩:=O.look
  exact abg (W.kitx_own (cl.get _) cl.hd ha hn Z7 hm) I.xK J e (λz=>nomatch z) h
end
structure kI(k:Nat)(A:Around):Prop where
 hd:A.handled=none
 dp:A.depth+3*k+5<recursionLimit
 un:A.units+16*k+200<cLine
theorem kI.mono{j k:Nat}{A:Around}(r:kI k A)(h:j<=k):kI j A:=⟨r.hd,by have:=r.dp;omega,by have:=r.un;omega⟩
theorem kI.deeper{k:Nat}{A:Around}(r:kI (k+1) A)(env:Env):kI k (A.deeper env):=
 ⟨r.hd,by have:=r.dp;show A.depth+1+3*k+5<_;omega,by have:=r.un;show A.units+3+16*k+200<_;omega⟩
theorem FE{A:Around}{C:Addr}{us:List Value}{kw:List (Str×Value)}:(A.under (.builtin "type.__call__" ⟨.ref C::us,kw⟩)).depth=A.depth+1:=by
 first|rfl|simp[Around.under,Code.weight,Code.isCreation,Code.isGuard,Code.isCaller,Code.frames,Code.isFrame,guardIds]
theorem FF{A:Around}{C:Addr}{us:List Value}{kw:List (Str×Value)}:(A.under (.builtin "type.__call__" ⟨.ref C::us,kw⟩)).units=A.units+1:=by
 first|rfl|simp[Around.under,Code.cUnits,Code.frames,Code.isFrame]
theorem kI.make{k:Nat}{A:Around}(r:kI (k+1) A)(C:Addr)(us:List Value)(kw:List (Str×Value)):kI k (A.under (.builtin "type.__call__" ⟨.ref C::us,kw⟩)):=
 ⟨r.hd,by have:=r.dp;rw[FE];omega,by have:=r.un;rw[FF];omega⟩
theorem kI.depth{k:Nat}{A:Around}(r:kI k A):A.depth<recursionLimit:=by have:=r.dp;omega
theorem kI.units{k:Nat}{A:Around}(r:kI k A):A.units+64<cLine:=by have:=r.un;omega
def OL:TA:=λ_ H Q=>Q [] H
def R3(ta:TE)(tr:TA):TA:=λZ H Q=>ta Z H λx H1=>tr Z H1 λxs H2=>Q (x::xs) H2
section
variable{X:Cx}{e:Expr}{es:List Expr}{te:TE}{t:TA}{pos:Pos}
theorem d_:PA X [] OL:=λ_ _ _ _ H Q I h=>abv ⟨[],H,I,.nil,h⟩
theorem a_(ha:PE X e te)(hr:PA X es t)(hs:starEach (e::es) X.env=(false,eval e X.env)::starEach es X.env:=by rfl):PA X (e::es) (R3 te t):=by
 intro pos c_ s Z H Q I h
 rw[hs]
 show wpAny _ _ (spliced ((false,eval e X.env)::backTo pos (starEach es X.env))) _ _ s
 refine abb (i8 (ha c_ s Z H _ I h) λu s1 iJ=>?_)
 obtain⟨x,H1,I1,r1,q1⟩:=iJ
 exact i8 (hr pos c_ s1 Z H1 _ I1 q1) λus s2 ⟨xs,H2,I2,r2,q2⟩=>⟨x::xs,H2,I2,.cons r1 r2,q2⟩
def Wx(t:TA):TE:=λZ H Q=>t Z H λxs H1=>xs.length<=sizeLine/\∀p,H1 p=none->Q (.ref p) (upd H1 p (.tup xs))
def Wy(t:TA):TE:=λZ H Q=>t Z H λxs H1=>xs.length<=sizeLine/\∀p,H1 p=none->Q (.ref p) (upd H1 p (.lst xs))
theorem wK{x1}(h:PA X es t):PE X (.Tuple es x1 pos) (Wx t):=by
 intro c_ s Z H Q I hq
 refine wpAny_Tuple_spliced (i8 (h pos c_ s Z H _ I hq) λus s1 iJ=>?_)
 obtain⟨xs,H1,I1,r,z,q⟩:=iJ
 refine⟨by rw[<-r.length];exact z,?_⟩
 have hf:H1 s1.heap.objs.size=none:=I1.iM.fresh (WR _)
 refine⟨.ref s1.heap.objs.size,upd H1 s1.heap.objs.size (.tup xs),I1.laid (t':=s1.toks) (λb u e=>aaj _ e) (WR _) ?_,rfl,q _ hf⟩
 exact⟨z,us,r,⟨_,aax _ rfl,rfl,_,rfl⟩⟩
theorem iQ(h:PA X es t):PE X (.List es pos) (Wy t):=by
 intro c_ s Z H Q I hq
 refine wpAny_List_spliced (i8 (h pos c_ s Z H _ I hq) λus s1 iJ=>?_)
 obtain⟨xs,H1,I1,r,z,q⟩:=iJ
 refine⟨by rw[<-r.length];exact z,?_⟩
 have hf:H1 s1.heap.objs.size=none:=I1.iM.fresh (WR _)
 refine⟨.ref s1.heap.objs.size,upd H1 s1.heap.objs.size (.lst xs),I1.laid (t':=s1.toks) (λb u e=>aaj _ e) (WR _) ?_,rfl,q _ hf⟩
 exact⟨z,us,0,r,aax _ rfl⟩
end
abbrev Sp:=List V->Hp->VK->XK->Prop
abbrev G0:=List Env->Hp->Shared->XK->Qqq
structure FG(P:Program)(w:World)(K:Qqy)(mg:Qqx)(base:Heap)(A:Around)(outer:List Env)(s:Shared)(H:Hp):Prop where
 frames:A.frames=some outer
 mod:Mod K mg base
 bs:∀b o,base.get? b=some o->s.heap.get? b=some o/\H b=none
 L1:base.objs.size<=s.heap.objs.size
 u0:s.heap.FunFrames base outer
 NI:∀b∈uu outer,H b=none
 iM:rD P w H s.heap
 bare:AllBare s.gens
def CE(outer:List Env)(P:Program)(w:World)(H:Hp)(s:Shared)(Q:VK)(u:Value)(s':Shared):Prop:=
 ∃v H',s'.os=s.os/\AllBare s'.gens/\Un (uu outer) [] H H' s.heap s'.heap/\rD P w H' s'.heap/\RelV v u/\Q v H'
def CR(CX:G0)(outer:List Env)(P:Program)(w:World)(H:Hp)(s:Shared)(Q:VK)(E:XK)(r:Result)(s':Shared):Prop:=
 match r with
 | .ok (.ret u)=>CE outer P w H s Q u s'
 | .ok _=>False
 | .error e=>CX outer H s E e s'
structure il(P:Program)(w:World)(K:Qqy)(mg:Qqx)(base:Heap)(CX:G0)(k:Nat)(f:Addr)(fd:FuncData)(ps:List Str)(sp:Sp):Prop where
 len:∀vs H Q E,sp vs H Q E->vs.length=ps.length
 run:∀(A:Around)(outer:List Env)(s:Shared)(H:Hp)(args:Args)(us:List Value)(vs:List V)(Q:VK)(E:XK),kI k A->FG P w K mg base A outer s H->BindsTo s fd args (ps.zip us)->Vals vs us->sp vs H Q E->
  codeAny (model P w) A (.call (.ref f) args) (CR CX outer P w H s Q E) s
theorem il.mono{P:Program}{w:World}{K:Qqy}{mg:Qqx}{base:Heap}{CX:G0}{j k:Nat}{f:Addr}{fd:FuncData}{ps:List Str}{sp:Sp}(F:il P w K mg base CX j f fd ps sp)(h:j<=k) :
 il P w K mg base CX k f fd ps sp:=⟨F.len,λA outer s H args us vs Q E hr=>F.run A outer s H args us vs Q E (hr.mono h)⟩
theorem FG.make{P:Program}{w:World}{K:Qqy}{mg:Qqx}{base:Heap}{A:Around}{outer:List Env}{s:Shared}{H:Hp}(e:FG P w K mg base A outer s H)(C:Addr)(us:List Value)(kw:List (Str×Value)) :
 FG P w K mg base (A.under (.builtin "type.__call__" ⟨.ref C::us,kw⟩)) outer s H:=⟨by first|exact e.frames|(simpa[Around.under,Code.envs,Code.isFrame,pushEnvs] using e.frames),e.mod,e.bs,e.L1,e.u0,e.NI,e.iM,e.bare⟩
section
variable{X:Cx}{c_:Qqz}{Z:St}{H:Hp}{s s':Shared}
theorem Inv.R4(I:Inv X c_ Z H s):FG X.prog X.w X.K X.mg X.base X.A X.stack s H:=
 ⟨I.ok.frames,I.ok.mod,I.bs,aai I.ok.L1 I.sz,I.stack,I.Cg,I.iM,I.bare⟩
theorem Inv.after{Q:VK}{u:Value}(I:Inv X c_ Z H s)(h:CE X.stack X.prog X.w H s Q u s'):EP X c_ Z Q u s':=by
 obtain⟨v,H',os,bare,un,iM,r,q⟩:=h
 obtain⟨hh,g,d,t,os'⟩:=s'
 obtain rfl:os'=s.os:=os
 exact⟨v,H',I.call (h':=hh) (g':=g) (d':=d) (t':=t) (ch:=[]) un iM bare (λb z=>absurd z (by simp)),r,q⟩
end
def JC(sp:Sp)(zg:List V)(E:XK)(t:TA):TE:=λZ H Q=>t Z H λvs H1=>sp (vs++zg) H1 Q E
inductive mK(C:Addr)(m:Str)(x:V)(H:Hp)(R:Prop):Prop
 | mk (a dx:Addr) (fs:List (Str×V)) (_:x=.ref a) (_:H a=some (.ins C dx fs)) (_:fs.lookup m=none) (_:R)
def G1(C:Addr)(m:Str)(sp:Sp)(zg:List V)(E:XK)(ta:TE)(t:TA):TE:=λZ H Q=>ta Z H λx H1=>mK C m x H1 (t Z H1 λvs H2=>sp (x::(vs++zg)) H2 Q E)
def NM(C:Addr)(sp:Sp)(zg:List V)(E:XK)(t:TA):TE:=λZ H Q=>t Z H λvs H1=>∀x dx,H1 x=none->H1 dx=none->dx≠x->
 sp (.ref x::(vs++zg)) (upd (upd H1 dx (.own x)) x (.ins C dx [])) (λv H2=>v=.jg/\Q (.ref x) H2) E
def Binds(K:Qqy)(fd:FuncData)(ps:List Str)(ds:List Value):Prop:=
 ∀(s:Shared)(us:List Value),K.In s.heap->(us++ds).length=ps.length->BindsTo s fd ⟨us,[]⟩ (ps.zip (us++ds))
theorem Binds.all{K:Qqy}{fd:FuncData}{ps:List Str}(h:∀us:List Value,us.length=ps.length->bindArgs fd ⟨us,[]⟩=pure (ps.zip us)):Binds K fd ps []:=λs us _ hl=>by
 rw[aaM] at hl ⊢
 exact .of_eq (h us hl)
def Passes(CX:G0)(X:Cx)(E:XK):Prop:=∀(c_:Qqz)(Z:St)(H:Hp)(s:Shared)(e:Value)(s':Shared),Inv X c_ Z H s->CX X.stack H s E e s'->X.xe e s'
section
variable{X:Cx}{CX:G0}{k:Nat}{f C:Addr}{fd:FuncData}{ps:List Str}{sp:Sp}{zg:List V}{ds:List Value}{E:XK}{x m:Str}{p pos apos:Pos}{e o:Expr}{es:List Expr}{ta:TE}{t:TA}
theorem FH{c_:Qqz}{Z:St}{H:Hp}{s:Shared}{Q:VK}{us:List Value}{vs:List V}(F:il X.prog X.w X.K X.mg X.base CX k f fd ps sp)(hr:kI k X.A)(hb:Binds X.K fd ps ds)(hd:Vals zg ds)(hx:Passes CX X E)
  (I:Inv X c_ Z H s) (r:Vals vs us) (h:sp (vs++zg) H Q E):wpAny (model X.prog X.w) X.A (call (.ref f) us) (EP X c_ Z Q) X.xe s:=by
 have r2:Vals (vs++zg) (us++ds):=r.append hd
 have hl:(us++ds).length=ps.length:=by rw[<-r2.length];exact F.len _ _ _ _ h
 refine wpAny_call (codeAny_mono (F.run X.A X.stack s H ⟨us,[]⟩ (us++ds) (vs++zg) Q E hr I.R4 (hb s us I.xK hl) r2 h) λr s' hq=>?_)
 cases r with
 | error e=>exact hx c_ Z H s e s' I hq
 | ok fl=>
  cases fl with
  | ret u=>exact I.after hq
  | next=>exact False.elim hq
  | brk=>exact False.elim hq
  | cont=>exact False.elim hq
theorem vj(F:il X.prog X.w X.K X.mg X.base CX k f fd ps sp)(hr:kI k X.A)(hg:Gl X x)(hm:X.mg x=some (.ref f))(hk:W.keepIn X.K (.ref f)=true)(hb:Binds X.K fd ps ds)(hd:Vals zg ds)(hx:Passes CX X E)
  (ha:PA X (e::es) t) (GA:(x ==("__debug__":Str))=false:=by decide) (he:starEach (e::es) X.env=(false,eval e X.env)::starEach es X.env:=by rfl) (qU:(backTo pos (starEach es X.env)).any (·.1)=false:=by rfl) :
  PE X (.Call (.Name x p) (e::es) [] pos) (JC sp zg E t):=by
 intro c_ s Z H Q I h
 refine wpAny_Call_Name_kw (u9 I hg hm ?_ GA)
 refine W.callWith_K (h₀:=X.base) I.ok.mod.Q3 hk (i8 (ha pos c_ s Z H _ I h) λus s1 iJ=>?_) he qU
 obtain⟨vs,H1,I1,r,q⟩:=iJ
 refine⟨I1.xK,?_⟩
 exact FH F hr hb hd hx I1 r q
theorem G2{pl:Sem Bool}(he:PE X o ta)(c:Fx X.K C)(hm:Meth X.K C m f)(F:il X.prog X.w X.K X.mg X.base CX k f fd ps sp)(hr:kI k X.A)(hb:Binds X.K fd ps ds)(hd:Vals zg ds)(hx:Passes CX X E)(ha:PA X (e::es) t)
  (xy:starEach (e::es) X.env=(false,eval e X.env)::starEach es X.env:=by rfl) (qU:(backTo pos (starEach es X.env)).any (·.1)=false:=by rfl)
  (ht:eval (.Call (.Attribute o m apos) (e::es) [] pos) X.env=(do
   let ov <-eval o X.env
   standAt apos.atName
   let (f,first) <-holding [ov] (getMethod ov m pl)
   callWith pos f first (backTo pos (starEach (e::es) X.env)) (backToKw pos (keywordEach [] X.env))):=by rfl) :
  PE X (.Call (.Attribute o m apos) (e::es) [] pos) (G1 C m sp zg E ta t):=by
 intro c_ s Z H Q I h
 refine W.methodCall_KW (pl:=pl) (i8 (he c_ s Z H _ I h) λu s1 iJ=>?_) ht
 obtain⟨x,H1,I1,rx,a,dx,fs,ex,ea,l,q⟩:=iJ
 subst ex
 obtain rfl:u=Value.ref a:=rx
 refine zq I1 ea c hm l ?_
 refine W.callWith_K (first:=[.ref a]) (h₀:=X.base) I.ok.mod.Q3 hm.kp (i8 (ha pos c_ s1 Z H1 _ I1 q) λus s2 iJ=>?_) xy qU
 obtain⟨vs,H2,I2,r,q2⟩:=iJ
 refine⟨I2.xK,?_⟩
 exact FH (us:=.ref a::us) (vs:=.ref a::vs) F hr hb hd hx I2 (.cons rfl r) q2
theorem D_{pl:Sem Bool}(he:PE X o ta)(c:Fx X.K C)(hm:Meth X.K C m f)(F:il X.prog X.w X.K X.mg X.base CX k f fd ps sp)(hr:kI k X.A)(hb:Binds X.K fd ps ds)(hd:Vals zg ds)(hx:Passes CX X E)
  (ht:eval (.Call (.Attribute o m apos) [] [] pos) X.env=(do
   let ov <-eval o X.env
   standAt apos.atName
   let (f,first) <-holding [ov] (getMethod ov m pl)
   callWith pos f first (backTo pos (starEach [] X.env)) (backToKw pos (keywordEach [] X.env))):=by rfl) :
  PE X (.Call (.Attribute o m apos) [] [] pos) (G1 C m sp zg E ta OL):=by
 intro c_ s Z H Q I h
 refine W.methodCall_KW (pl:=pl) (i8 (he c_ s Z H _ I h) λu s1 iJ=>?_) ht
 obtain⟨x,H1,I1,rx,a,dx,fs,ex,ea,l,q⟩:=iJ
 subst ex
 obtain rfl:u=Value.ref a:=rx
 refine zq I1 ea c hm l ?_
 exact W.callWith_K0 (first:=[.ref a]) I1.xK hm.kp (FH (us:=[.ref a]) (vs:=[.ref a]) F hr hb hd hx I1 (.cons rfl .nil) q)
structure Mk(K:Qqy)(C f:Addr):Prop where
 makes:W.makesIn K C=true
 init:W.findIn K (.ref C) "__init__"=some (some (.ref f))
 fn:W.isFn K (.ref f)=true
 kp:W.keepIn K (.ref C)=true
theorem Ea{c_:Qqz}{Z:St}{H:Hp}{s:Shared}{Q:VK}{us:List Value}{vs:List V}(M:Mk X.K C f)(F:il X.prog X.w X.K X.mg X.base CX k f fd ps sp)(hr:kI (k+1) X.A)(hb:Binds X.K fd ps ds)(hd:Vals zg ds)
  (hx:Passes CX X E) (I:Inv X c_ Z H s) (r:Vals vs us)
  (h:∀x dx,H x=none->H dx=none->dx≠x->sp (.ref x::(vs++zg)) (upd (upd H dx (.own x)) x (.ins C dx [])) (λv H2=>v=.jg/\Q (.ref x) H2) E) :
  wpAny (model X.prog X.w) X.A (call (.ref C) us) (EP X c_ Z Q) X.xe s:=by
 have hq:=h (s.heap.objs.size+1) s.heap.objs.size (I.iM.fresh (Nat.le_succ _)) (I.iM.fresh (WR _)) (aaJ (acf _))
 have I2:=Inv.made (C:=C) I
 have r2:Vals (V.ref (s.heap.objs.size+1)::(vs++zg)) (Value.ref (s.heap.objs.size+1)::(us++ds)):=.cons rfl (r.append hd)
 have hl:(Value.ref (s.heap.objs.size+1)::us++ds).length=ps.length:=by
  have e:=r2.length
  rw[F.len _ _ _ _ hq] at e
  exact e.symm
 refine wpAny_call (JB (f:=f) I.xK M.makes M.init (abS.mp M.fn) (codeAny_mono (F.run _ X.stack _ _ ⟨Value.ref (s.heap.objs.size+1)::us,[]⟩ (Value.ref (s.heap.objs.size+1)::(us++ds)) _ _ E (hr.make C us [])
  (I2.R4.make C us []) (hb _ (Value.ref (s.heap.objs.size+1)::us) I2.xK hl) r2 hq) λr s' Ll=>?_))
 cases r with
 | error e=>exact hx c_ Z _ _ e s' I2 Ll
 | ok fl=>
  cases fl with
  | ret u=>
   obtain⟨v,H',I3,rv,ev,q3⟩:=I2.after Ll
   subst ev
   exact⟨rv,⟨V.ref (s.heap.objs.size+1),H',I3,rfl,q3⟩⟩
  | next=>exact False.elim Ll
  | brk=>exact False.elim Ll
  | cont=>exact False.elim Ll
theorem vp(M:Mk X.K C f)(F:il X.prog X.w X.K X.mg X.base CX k f fd ps sp)(hr:kI (k+1) X.A)(hg:Gl X x)(hm:X.mg x=some (.ref C))(hb:Binds X.K fd ps ds)(hd:Vals zg ds)(hx:Passes CX X E)
  (ha:PA X (e::es) t) (GA:(x ==("__debug__":Str))=false:=by decide) (he:starEach (e::es) X.env=(false,eval e X.env)::starEach es X.env:=by rfl) (qU:(backTo pos (starEach es X.env)).any (·.1)=false:=by rfl) :
  PE X (.Call (.Name x p) (e::es) [] pos) (NM C sp zg E t):=by
 intro c_ s Z H Q I h
 refine wpAny_Call_Name_kw (u9 I hg hm ?_ GA)
 refine W.callWith_K (h₀:=X.base) I.ok.mod.Q3 M.kp (i8 (ha pos c_ s Z H _ I h) λus s1 iJ=>?_) he qU
 obtain⟨vs,H1,I1,r,q⟩:=iJ
 refine⟨I1.xK,?_⟩
 exact Ea M F hr hb hd hx I1 r q
theorem JD(M:Mk X.K C f)(F:il X.prog X.w X.K X.mg X.base CX k f fd ps sp)(hr:kI (k+1) X.A)(hg:Gl X x)(hm:X.mg x=some (.ref C))(hb:Binds X.K fd ps ds)(hd:Vals zg ds)(hx:Passes CX X E)
  (GA:(x ==("__debug__":Str))=false:=by decide):PE X (.Call (.Name x p) [] [] pos) (NM C sp zg E OL):=by
 intro c_ s Z H Q I h
 refine wpAny_Call_Name_kw (u9 I hg hm ?_ GA)
 exact W.callWith_K0 I.xK M.kp (Ea (us:=[]) M F hr hb hd hx I .nil h)
end
def PK(X:Cx)(Z8:List Keyword)(t:TA):Prop:=
 ∀(pos:Pos)(c_:Qqz)(s:Shared)(Z:St)(H:Hp)(Q:List V->Hp->Prop),Inv X c_ Z H s->t Z H Q->wpAny (model X.prog X.w) X.A (evalAll ((backToKw pos (keywordEach Z8 X.env)).map (·.2))) (AP X c_ Z Q) X.xe s
section
variable{X:Cx}{CX:G0}{k:Nat}{f C:Addr}{fd:FuncData}{ps ks:List Str}{sp:Sp}{E:XK}{x m:Str}{p pos apos kpos:Pos}{e o:Expr}{es:List Expr}{Z8:List Keyword}{te ta:TE}{t tk:TA}{nm:Option Str}
variable{g:List Value->List Value->List Value}{gV:List V->List V->List V}
end
structure gH(N P:List Str)(sc:Scope):Prop where
 kind:sc.kind=.function
 co:sc.isCoroutine=false
 gen:sc.isGenerator=false
 nd:N.Nodup
 pre:N.take P.length=P
 par:∀x∈P,sc.names.lookup x=some .local\/sc.names.lookup x=some .cell
 OM:∀y∈sc.names,y.2≠.free
theorem By{kindOf:Str->Option NameKind}{x:Str}:∀{binds:List (Str×Value)} {m:Qqx},(∀v,(x,v)∉binds)->bindL kindOf binds m x=m x
 | [],_,_=>rfl
 | (n,v)::r,m,h=>by
  unfold bindL
  rw[By λw hw=>h w (aaa _ hw)]
  split
  ·have:x≠n:=by rintro rfl;exact h v aap
   simp[this]
  ·rfl
theorem Bz{kindOf:Str->Option NameKind}{x:Str}:∀{binds:List (Str×Value)} {m:Qqx},(∀v,(x,v)∉binds)->bindC kindOf binds m x=m x
 | [],_,_=>rfl
 | (n,v)::r,m,h=>by
  unfold bindC
  rw[Bz λw hw=>h w (aaa _ hw)]
  split
  ·rfl
  ·have:x≠n:=by rintro rfl;exact h v aap
   simp[this]
theorem BA{kindOf:Str->Option NameKind}{x:Str}{v:Value}:∀{P:List Str} {vs:List Value} {i:Nat} {m:Qqx},P.Nodup->P[i]?=some x->vs[i]?=some v->kindOf x=some .local->
  bindL kindOf (P.zip vs) m x=some v
 | [],_,_,_,_,h,_,_=>by simp at h
 | _::_,[],_,_,_,_,h,_=>by simp at h
 | p::P,w::vs,0,m,nd,h1,h2,hk=>by
  simp at h1 h2;subst h1;subst h2
  show bindL kindOf ((p,w)::P.zip vs) m p=_
  unfold bindL
  rw[By λv hv=>(aaW.mp nd).1 (List.of_mem_zip hv).1,aan hk]
  simp
 | p::P,w::vs,i+1,m,nd,h1,h2,hk=>by
  show bindL kindOf ((p,w)::P.zip vs) m x=_
  unfold bindL
  exact BA (i:=i) (aaW.mp nd).2 (by simpa using h1) (by simpa using h2) hk
theorem BB{kindOf:Str->Option NameKind}{x:Str}{v:Value}:∀{P:List Str} {vs:List Value} {i:Nat} {m:Qqx},P.Nodup->P[i]?=some x->vs[i]?=some v->kindOf x≠some .local->
  bindC kindOf (P.zip vs) m x=some v
 | [],_,_,_,_,h,_,_=>by simp at h
 | _::_,[],_,_,_,_,h,_=>by simp at h
 | p::P,w::vs,0,m,nd,h1,h2,hk=>by
  simp at h1 h2;subst h1;subst h2
  show bindC kindOf ((p,w)::P.zip vs) m p=_
  unfold bindC
  rw[Bz λv hv=>(aaW.mp nd).1 (List.of_mem_zip hv).1,aac hk]
  simp
 | p::P,w::vs,i+1,m,nd,h1,h2,hk=>by
  show bindC kindOf ((p,w)::P.zip vs) m x=_
  unfold bindC
  exact BB (i:=i) (aaW.mp nd).2 (by simpa using h1) (by simpa using h2) hk
def start(N:List Str)(vs:List V):St:=vs.map some++List.replicate (N.length-vs.length) none
def wL(CX:G0)(P:Program)(w:World)(K:Qqy)(mg:Qqx)(base:Heap)(N:List Str)(qual:Str)(scope:Scope)(f:Addr)(cd:Value)(A:Around)(outer:List Env)(s:Shared)(H:Hp)(E:XK):Cx where
 prog:=P
 w:=w
 K:=K
 mg:=mg
 base:=base
 A:=A.deeper (envOfC qual scope s.heap.objs.size f cd)
 N:=N
 s₀:=s
 H₀:=H
 env:=envOfC qual scope s.heap.objs.size f cd
 outer:=outer
 stack:=envOfC qual scope s.heap.objs.size f cd::outer
 ex:=[]
 calm:=true
 fn:=λ_=>true
 pn:=[]
 xe:=λe s'=>wpAny (model P w) (A.deeper (envOfC qual scope s.heap.objs.size f cd)) (leaving (envOfC qual scope s.heap.objs.size f cd) e) (λ_ Jg=>CX outer H s E e Jg) (λe' Jg=>CX outer H s E e' Jg) s'
theorem Eb{sc:Scope}{n:Nat}{x:Str}(h:sc.names.lookup x=some .cell):∃c,(cellsFrom n sc.names []).lookup x=some c:=by
 have q:=W.cellsFrom_some sc.names n [] (.inl h)
 exact Option.isSome_iff_exists.mp q
theorem HZ{CX:G0}{P:Program}{w:World}{K:Qqy}{mg:Qqx}{base:Heap}{N ps:List Str}{qual:Str}{scope:Scope}{f:Addr}{cd:Value}{A:Around}{outer:List Env}{s s1:Shared}{H:Hp}{E:XK}{us:List Value}{vs:List V}
  (S:gH N ps scope) (hd:A.handled=none) (e0:FG P w K mg base A outer s H) (hl:vs.length=ps.length) (r:Vals vs us)
  (x:InCallC s s.heap.objs.size (bindL (envOfC qual scope s.heap.objs.size f cd).kindOf (ps.zip us) λ_=>none) (cellsFrom (s.heap.objs.size+1) scope.names []) (bindC (envOfC qual scope s.heap.objs.size f cd).kindOf (ps.zip us) λ_=>none) s1) :
  Inv (wL CX P w K mg base N qual scope f cd A outer s H E) [] (start N vs) H s1:=by
 have qU:ps.length<=N.length:=by have:=aaQ List.length S.pre;rw[aaC] at this;omega
 obtain⟨h1,tk,rfl,hk⟩:=x.done
 have Te:∀b:Addr,b∉(wL CX P w K mg base N qual scope f cd A outer s H E).ex:=λb z=>absurd (show b∈([]:List Addr) from z) (by simp)
 refine⟨⟨e0.mod,S.kind,rfl,rfl,WR _,λy z c h1 h2=>?_,λy hy=>?_,λy c _ h=>?_,λ_=>hd,Around.frames_deeper e0.frames,.inr ⟨rfl,rfl⟩,λb z=>absurd z (Te b),e0.bs,e0.L1,λb _ _=>Te b,λb z=>absurd z (Te b),e0.u0,e0.NI⟩,
  rfl,e0.bare,Un.kept hk,⟨_,x.toInCall.ns,λi y v h1 h2 h3=>?_⟩,λy c h=>⟨_,x.cell y c h⟩,e0.iM.fresh (WR _),λy c h=>?_,λp hp=>absurd (show p∈([]:Qqz) from hp) (by simp),e0.iM.kept hk,?_⟩
 ·exact name_of_addr x.apart (abw h1) (abw h2)
 ·have hy:scope.names.lookup y=some .cell\/scope.names.lookup y=some .free:=hy
  rcases hy with hy|hy
  ·exact Eb hy
  ·exact absurd rfl (S.OM _ (abw hy))
 ·exact acp (x.above y c (abw h))
 ·have hi:i<vs.length:=by
   unfold start at h2
   by_cases hi:i<vs.length
   ·exact hi
   ·rw[aba (by simpa using hi)] at h2
    rw[List.getElem?_replicate] at h2
    split at h2<;>cases h2
  have ha:vs[i]?=some v:=by
   unfold start at h2
   rw[abP (by simpa using hi),aam] at h2
   cases e:vs[i]? with
   | none=>rw[e] at h2;cases h2
   | some a=>rw[e] at h2;cases h2;rfl
  obtain⟨u,hu,rv⟩:=r.get ha
  have hp:ps[i]?=some y:=by
   rw[<-S.pre,List.getElem?_take_of_lt (by omega)];exact h1
  have Z9:ps.Nodup:=by rw[<-S.pre];exact S.nd.sublist (acd _ _)
  refine⟨u,rv,?_⟩
  rcases S.par y (WW hp) with k|k
  ·exact .inl ⟨k,BA Z9 hp hu k⟩
  ·obtain⟨c,e⟩:=Eb (n:=s.heap.objs.size+1) k
   refine .inr ⟨.inl k,c,e,?_⟩
   have q:=x.cell y c e
   rw[BB Z9 hp hu (by show scope.names.lookup y≠_;rw[k];decide)] at q
   exact q
 ·exact e0.iM.fresh (acp (x.above y c (abw h)))
 ·unfold start
  show _=N.length
  rw[XF,Ob,List.length_replicate]
  omega
theorem NN{CX:G0}{P:Program}{w:World}{K:Qqy}{mg:Qqx}{base:Heap}{k:Nat}{f:Addr}{name qual:Str}{params:Arguments}{body:List Stmt}{scope:Scope}{dV kV doc pm jt ct oc:Value}{an od:Option Addr}
  {Jn:Array (Option Value)} {N ps:List Str} {sp:Sp} (lk:K.lookup f=some ⟨oc,od,.func (W.fnOf name qual params body scope dV kV doc pm an jt ct),Jn⟩) (Cb:W.codeIn K jt qual=true) (S:gH N ps scope)
  (len:∀vs H Q E,sp vs H Q E->vs.length=ps.length)
  (wq:∀(A:Around)(outer:List Env)(s:Shared)(H:Hp)(vs:List V)(Q:VK)(E:XK),kI k (A.deeper (envOfC qual scope s.heap.objs.size f jt))->sp vs H Q E->
   ∃t,Fw (wL CX P w K mg base N qual scope f jt A outer s H E) body t/\t {nx:=λ_ H'=>Q .jg H',rt:=Q} (start N vs) H) :
  il P w K mg base CX (k+1) f (W.fnOf name qual params body scope dV kV doc pm an jt ct) ps sp:=by
 refine⟨len,λA outer s H args us vs Q E hr e0 hb r LP=>?_⟩
 have hl:=len _ _ _ _ LP
 have KX:K.In s.heap:=e0.mod.Q3.keeps λb o e=>(e0.bs b o e).1
 have lim:s.heap.NoLimit:=e0.mod.nolimit.keeps λb o e=>(e0.bs b o e).1
 have Tf:∀y∈ps.zip us,scope.names.lookup y.1=some .local\/(scope.names.lookup y.1=some .cell/\((cellsFrom (s.heap.objs.size+1) scope.names []).lookup y.1).isSome=true):=λ⟨n,v⟩ hy=>by
  rcases S.par n (List.of_mem_zip hy).1 with q|q
  ·exact .inl q
  ·exact .inr ⟨q,W.cellsFrom_some _ _ _ (.inl q)⟩
 refine codeAny_call_function hr.depth (KX _ _ lk) rfl S.co S.gen rfl (W.codeRec_of KX Cb) (hb _ _ _ _ ?_)
 refine wpAny_newFunctionEnv_cells S.kind Tf λenv he s1 x=>?_
 subst he
 refine⟨lim.keeps x.toInCall.keep,codeAny_func ?_⟩
 obtain⟨t,ht,hq⟩:=wq A outer s H vs Q E (hr.deeper _) LP
 have I:Inv (wL CX P w K mg base N qual scope f jt A outer s H E) [] (start N vs) H s1:=HZ S hr.hd e0 hl r x
 refine abo (ht [] s1 (start N vs) H _ I hq) (λfl s' hs=>?_) λe s' hs=>hs
 have fin:∀{Z':St} {H':Hp} {v:V} {u:Value},Inv (wL CX P w K mg base N qual scope f jt A outer s H E) [] Z' H' s'->RelV v u->Q v H'->CE outer P w H s Q u s':=
  λ{Z' H' v u} J rv q=>⟨v,H',J.os,J.bare,J.base,J.iM,rv,q⟩
 cases fl with
 | ret u=>
  obtain⟨v,Z',H',J,rv,q⟩:=hs
  exact fin J rv q
 | next=>
  obtain⟨Z',H',J,q⟩:=hs
  exact fin (v:=V.jg) (u:=Value.none) J rfl q
 | brk=>
  obtain⟨_,_,_,q⟩:=hs
  exact False.elim q
 | cont=>
  obtain⟨_,_,_,q⟩:=hs
  exact False.elim q
section
variable{X:Cx}{x:Str}{p pos:Pos}{e:Expr}{es:List Expr}{t:TA}{id T:String}{r:List V->Hp->VK->Prop}
def ZQ(r:List V->Hp->VK->Prop)(t:TA):TE:=λZ H Q=>t Z H λvs H1=>r vs H1 Q
theorem gM(hc:ve X (.builtin id) r)(hg:Gl X x)(hm:X.mg x=none)(hv:bootBuiltins x=some (.builtin id))(ha:PA X (e::es) t)(hn:x≠"__name__":=by decide)(GA:(x ==("__debug__":Str))=false:=by decide)
  (he:starEach (e::es) X.env=(false,eval e X.env)::starEach es X.env:=by rfl) (qU:(backTo pos (starEach es X.env)).any (·.1)=false:=by rfl):PE X (.Call (.Name x p) (e::es) [] pos) (ZQ r t):=by
 intro c_ s Z H Q I h
 refine wpAny_Call_Name_kw (pe I hg hm hv ?_ hn GA)
 exact PyProof.Rows.callWith_builtin1 (i8 (ha pos c_ s Z H _ I h) λus s1 ⟨vs,H1,I1,r1,q1⟩=>hc c_ s1 Z H1 vs us Q I1 r1 q1) he qU
theorem BC(hc:ve X (.type T) r)(hg:Gl X x)(hm:X.mg x=none)(hv:bootBuiltins x=some (.type T))(ha:PA X (e::es) t)(hn:x≠"__name__":=by decide)(GA:(x ==("__debug__":Str))=false:=by decide)
  (he:starEach (e::es) X.env=(false,eval e X.env)::starEach es X.env:=by rfl) (qU:(backTo pos (starEach es X.env)).any (·.1)=false:=by rfl):PE X (.Call (.Name x p) (e::es) [] pos) (ZQ r t):=by
 intro c_ s Z H Q I h
 refine wpAny_Call_Name_kw (pe I hg hm hv ?_ hn GA)
 exact aa1 (i8 (ha pos c_ s Z H _ I h) λus s1 ⟨vs,H1,I1,r1,q1⟩=>hc c_ s1 Z H1 vs us Q I1 r1 q1) he qU
end
end L2
namespace HT
open PySem PyProof.Rows
section
open PySem.SeqAt
open PySem.AutoSeq1 (wpAny_loadPart')
open PySem.MeetsSeq PySem.MeetsSeq2 PySem.MeetsSeq3
end
section
variable{prog:Program}{w:World}{A:Around}{E:Qqq}{s:Shared}
def Ec(n d:Nat):Option Int->Nat
 | none=>d
 | some v=>if v<0 then(v+(n:Int)).toNat else min v.toNat n
theorem Ed(n d:Nat):Ec n d none=d:=rfl
theorem G3(n d k:Nat):Ec n d (some (k:Int))=min k n:=by
 show(if(k:Int)<0 then((k:Int)+(n:Int)).toNat else min (k:Int).toNat n)=min k n
 rw[aac (by omega),abF]
end
end HT
namespace L2
open PySem PySem.Spec PyProof.Rows
abbrev TO:=St->Hp->(Option Int->Hp->Prop)->Prop
def PO(X:Cx)(e:Option Expr)(t:TO):Prop:=
 ∀(c_:Qqz)(s:Shared)(Z:St)(H:Hp)(Q:Option Int->Hp->Prop),Inv X c_ Z H s->t Z H Q->
  wpAny (model X.prog X.w) X.A (evalPart e X.env) (λu s'=>∃o H',Inv X c_ Z H' s'/\IsPart u o/\Q o H') X.xe s
def L8:TO:=λ_ H Q=>Q none H
def R5(t:TE):TO:=λZ H Q=>t Z H λx H1=>∃i,x=.int i/\Q (some i) H1
section
variable{X:Cx}{e:Expr}{te:TE}{lo hi:Option Expr}{tl th:TO}{pos p2:Pos}
theorem oF:PO X none L8:=by
 intro c_ s Z H Q I h
 rw[evalPart_none]
 exact aaf ⟨none,H,I,.none,h⟩
theorem oG(h:PE X e te):PO X (some e) (R5 te):=by
 intro c_ s Z H Q I hw
 rw[evalPart_some]
 refine i8 (h c_ s Z H _ I hw) λu s1 iJ=>?_
 obtain⟨x,H1,I1,r1,q1⟩:=iJ
 obtain⟨i,rfl,q⟩:=q1
 obtain⟨t,rfl⟩:=r1
 exact⟨some i,H1,I1,.int i t,q⟩
def ZR(X:Cx)(r:V->Option Int->Option Int->Hp->VK->Prop):Prop:=
 ∀(c_:Qqz)(s:Shared)(Z:St)(H:Hp)(x:V)(v vl vu:Value)(lo hi:Option Int)(sl:Addr)(Q:VK),Inv X c_ Z H s->RelV x v->s.heap.IsSliceOf sl vl vu .none->IsPart vl lo->IsPart vu hi->r x lo hi H Q->
  ∃T id,typeLookup (.type T) "__getitem__"=pure (some (.builtin id))/\s.TypeIs v T/\wpAny (model X.prog X.w) X.A (getItem v (.ref sl)) (EP X c_ Z Q) X.xe s
def tSl(r:V->Option Int->Option Int->Hp->VK->Prop)(te:TE)(tl th:TO):TE:=λZ H Q=>te Z H λx H1=>tl Z H1 λl H2=>th Z H2 λu H3=>r x l u H3 Q
theorem mz{r:V->Option Int->Option Int->Hp->VK->Prop}(hr:ZR X r)(he:PE X e te)(hl:PO X lo tl)(hu:PO X hi th):PE X (.Subscript e (.Slice lo hi none p2) pos) (tSl r te tl th):=by
 intro c_ s Z H Q I h
 refine Subscript_ (i8 (he c_ s Z H _ I h) λv s1 iJ=>?_)
 obtain⟨x,H1,I1,r1,q1⟩:=iJ
 refine wpAny_Slice (i8 (hl c_ s1 Z H1 _ I1 q1) λvl s2 iJ=>?_)
 obtain⟨l,H2,I2,pl,q2⟩:=iJ
 refine i8 (hu c_ s2 Z H2 _ I2 q2) λvu s3 Jf=>?_
 obtain⟨u,H3,I3,pu,q3⟩:=Jf
 rw[evalPart_none]
 refine aaf ?_
 have I4:Inv X c_ Z H3 {s3 with heap:=s3.heap.push {cls:=.type "slice",data:=.fields #[vl,vu,.none]}}:=I3.kept (t':=s3.toks) λb ob q=>aaj _ q
 obtain⟨T,id,hT,ht,hg⟩:=hr c_ {s3 with heap:=s3.heap.push {cls:=.type "slice",data:=.fields #[vl,vu,.none]}} Z H3 x v vl vu l u s3.heap.objs.size Q I4 r1 (Heap.IsSliceOf.new ..) pl pu q3
 show wpAny (model X.prog X.w) X.A (subscriptTail e (.Slice lo hi none p2) v (.ref s3.heap.objs.size)) (EP X c_ Z Q) X.xe {s3 with heap:=s3.heap.push {cls:=.type "slice",data:=.fields #[vl,vu,.none]}}
 exact tail_any (ops:=[.ref s3.heap.objs.size,v]) ht hT hg (by with_unfolding_all rfl)
noncomputable def vq(xs:List V)(lo hi:Option Int):List V:=(xs.drop (HT.Ec xs.length 0 lo)).take (HT.Ec xs.length xs.length hi-HT.Ec xs.length 0 lo)
theorem Ee(xs:List V)(lo hi:Option Int):(vq xs lo hi).length<=xs.length:=by
 unfold vq
 rw[aaC,List.length_drop]
 omega
end
noncomputable def JE(n:Nat)(i:Int):Option Nat:=if 0<=i then(if i<n then some i.toNat else none) else if -(n:Int)<=i then some (i+n).toNat else none
noncomputable def Cn{Z:Type}(xs:List Z)(i:Int):Option Z:=(JE xs.length i).bind λj=>xs[j]?
theorem G4{n:Nat}{i:Int}{j:Nat}(h:JE n i=some j):seqIndex? i n=some j/\j<n/\-(n:Int)<=i/\i<n:=by
 unfold JE at h
 by_cases h0:0<=i
 ·rw[aan h0] at h
  by_cases h1:i<n
  ·rw[aan h1] at h
   have e:i.toNat=j:=aaz h
   exact⟨by rw[seqIndex_of h0 h1,e],by omega,by omega,h1⟩
  ·rw[aac h1] at h;cases h
 ·rw[aac h0] at h
  by_cases h1:-(n:Int)<=i
  ·rw[aan h1] at h
   have e:(i+n).toNat=j:=aaz h
   exact⟨by rw[seqIndex_neg (by omega) h1,e],by omega,h1,by omega⟩
  ·rw[aac h1] at h;cases h
theorem Co{Z:Type}{xs:List Z}{i:Int}{v:Z}(h:Cn xs i=some v):∃j,seqIndex? i xs.length=some j/\xs[j]?=some v/\j<xs.length/\-(xs.length:Int)<=i/\i<xs.length:=by
 unfold Cn at h
 cases e:JE xs.length i with
 | none=>rw[e] at h;cases h
 | some j=>
  rw[e] at h
  obtain⟨h1,h2,h3,h4⟩:=G4 e
  exact⟨j,h1,h,h2,h3,h4⟩
theorem L9{Z:Type}{xs:List Z}{j:Nat}{v:Z}(h:xs[j]?=some v):Cn xs (j:Int)=some v:=by
 have hj:j<xs.length:=(List.getElem?_eq_some_iff.mp h).1
 have e:JE xs.length (j:Int)=some j:=by
  unfold JE
  rw[aan (by omega),aan (by omega)];simp
 unfold Cn;rw[e];exact h
theorem Ef{Z:Type}(xs:List Z)(v:Z):Cn (xs++[v]) (-1)=some v:=by
 have hl:(xs++[v]).length=xs.length+1:=by simp
 have e:JE (xs++[v]).length (-1)=some xs.length:=by
  unfold JE
  rw[hl,aac (by decide),aan (by omega)]
  congr 1
  omega
 unfold Cn
 rw[e]
 show(xs++[v])[xs.length]?=some v
 simp
def G5(b:Expr):Prop:=∀o i,subscripted b false o i=operate [o,i] (getItem o i)
def U8(X:Cx)(r:R2):Prop:=
 ∀(value slice:Expr)(c_:Qqz)(s:Shared)(Z:St)(H:Hp)(x y:V)(v u:Value)(Q:VK),Inv X c_ Z H s->RelV x v->RelV y u->r x y H Q->
  subscripted slice false v u=operate [v,u] (getItem v u)->wpAny (model X.prog X.w) X.A (subscriptTail value slice v u) (EP X c_ Z Q) X.xe s
def Wz(X:Cx)(id:String)(r:V->List V->Hp->VK->Prop):Prop:=
 ∀(c_:Qqz)(s:Shared)(Z:St)(H:Hp)(x:V)(xs:List V)(v:Value)(us:List Value)(Q:VK),Inv X c_ Z H s->RelV x v->Vals xs us->r x xs H Q->
  wpAny (model X.prog X.w) X.A (call (.builtin id) (v::us)) (EP X c_ Z Q) X.xe s
section
variable{X:Cx}{a b:Expr}{ta tb:TE}{pos:Pos}
theorem jH{r:R2}(hr:U8 X r)(ha:PE X a ta)(hb:PE X b tb)(hs:G5 b):PE X (.Subscript a b pos) (RX r ta tb):=by
 intro c_ s Z H Q I h
 exact Subscript_ (OG ha hb I h λv u s2 x y H2 I2 rx ry q=>hr a b c_ s2 Z H2 x y v u Q I2 rx ry q (hs _ _))
inductive R6(K:Qqy)(x:V)(y:V)(H:Hp)(Q:VK):Prop
 | mk (p xs i v) (_:x=.ref p) (_:y=.int i) (_:gO K H p xs) (_:Cn xs i=some v) (_:Q v H)
inductive WA(K:Qqy)(x:V)(y:V)(H:Hp)(Q:VK):Prop
 | mk (p xs i v) (_:x=.ref p) (_:y=.int i) (_:pf K H p xs) (_:Cn xs i=some v) (_:Q v H)
noncomputable def WB:R2:=λx y H Q=>∃z i c,x=.str z/\y=.int i/\z.length<=sizeLine/\Cn z.cps.toList i=some c/\Q (.str ⟨#[c]⟩) H
theorem kQ:U8 X (R6 X.K):=by
 intro value slice c_ s Z H x y v u Q I rx ry h hs
 obtain⟨p,xs,i,z,rfl,rfl,hq,he,q⟩:=h
 cases rx
 obtain⟨t,rfl⟩:=ry
 obtain⟨gU,r,pl,hz⟩:=I.list hq
 obtain⟨j,h1,h2,h3,h4,h5⟩:=Co he
 obtain⟨w,ew,Bq⟩:=r.get h2
 have hl:=r.length
 have hn:=ux
 have fin:EP X c_ Z Q w s:=⟨z,H,I,Bq,q⟩
 by_cases h0:0<=i
 ·have hj:i.toNat=j:=by
   rw[seqIndex_of h0 h5] at h1
   exact aaz h1
  exact item_listR pl.isList h0 (by omega) (by rw[hj];simpa using ew) fin hs
 ·have hj:(i+(gU.toArray.size:Int)).toNat=j:=by
   rw[seqIndex_neg (by omega) h4] at h1
   rw[aag,<-hl]
   exact aaz h1
  exact subscriptTail_builtinR (x:=w) pl.isList.typeIs slot_list_getitem.lookup
   (wpAny_getItem_list_neg (Q:=λr s'=>r=w/\EP X c_ Z Q r s') pl.isList (by omega) (by rw[aag]<;>omega) (by omega) (by rw[hj];simpa using ew) ⟨rfl,fin⟩) hs
theorem l8:U8 X (WA X.K):=by
 intro value slice c_ s Z H x y v u Q I rx ry h hs
 obtain⟨p,xs,i,z,rfl,rfl,hq,he,q⟩:=h
 cases rx
 obtain⟨t,rfl⟩:=ry
 obtain⟨gU,r,pl,hz⟩:=I.tuple hq
 obtain⟨j,h1,h2,h3,h4,h5⟩:=Co he
 obtain⟨w,ew,Bq⟩:=r.get h2
 have hl:=r.length
 have hn:=ux
 have fin:EP X c_ Z Q w s:=⟨z,H,I,Bq,q⟩
 exact subscriptTail_builtinR (x:=w) pl.typeIs slot_tuple_getitem.lookup
  (getItem_tuple (j:=j) (Q:=λr s'=>r=w/\EP X c_ Z Q r s') pl (by omega) (by omega) (by rw[aag,<-hl];exact h1) (by simpa using ew) ⟨rfl,fin⟩) hs
theorem FJ:U8 X WB:=by
 intro value slice c_ s Z H x y v u Q I rx ry h hs
 obtain⟨z,i,c,rfl,rfl,hz,he,q⟩:=h
 obtain⟨t,rfl⟩:=rx
 obtain⟨t',rfl⟩:=ry
 obtain⟨j,h1,h2,h3,h4,h5⟩:=Co he
 have hl:z.cps.toList.length=z.length:=by simp[Str.length]
 rw[hl] at h1 h4 h5
 have hn:=ux
 exact tail_any (typeIs_str s z t) slot_str_getitem.lookup (getItem_str (c:=c) (by
  have e1:decide (i < -(2 ^ 63:Int))=false:=ZW (by omega)
  have e2:decide (i>=2 ^ 63)=false:=ZW (by omega)
  rw[e1,e2,Bool.or_false]) (by rw[h1];simpa using h2) ⟨.str ⟨#[c]⟩,H,I.tok _,⟨_,rfl⟩,q⟩) hs
theorem FK(gU:List Value)(n j:Nat)(u:Value):Obj.mapSeq (·.setIfInBounds j u) {cls:=.type "list",data:=.seq gU.toArray n}={cls:=.type "list",data:=.seq (gU.set j u).toArray n}:=by
 simp[Obj.mapSeq]
theorem Inv.lst{c_:Qqz}{Z:St}{H:Hp}{s:Shared}{p:Addr}{xs:List V}(I:Inv X c_ Z H s)(h:H p=some (.lst xs)) :
  ∃(gU:List Value)(n:Nat),Vals xs gU/\s.heap.get? p=some {cls:=.type "list",data:=.seq gU.toArray n}/\xs.length<=sizeLine:=by
 obtain⟨z,gU,n,r,e⟩:=I.iM p _ h
 exact⟨gU,n,r,e,z⟩
theorem Inv.ON{c_:Qqz}{Z:St}{H:Hp}{s:Shared}{p:Addr}{xs ys:List V}{gU its':List Value}{n n':Nat}{f:Obj->Obj}(I:Inv X c_ Z H s)(h:H p=some (.lst xs))
  (ho:s.heap.get? p=some {cls:=.type "list",data:=.seq gU.toArray n}) (hf:f {cls:=.type "list",data:=.seq gU.toArray n}={cls:=.type "list",data:=.seq its'.toArray n'}) (r:Vals ys its') (hz:ys.length<=sizeLine) (t:Nat) :
  Inv X c_ Z (upd H p (.lst ys)) {s with heap:=s.heap.update p f,toks:=t}:=by
 have e:(s.heap.update p f).get? p=some {cls:=.type "list",data:=.seq its'.toArray n'}:=by
  rw[aa5 f ho (by rw[hf]<;>rfl),hf]
 refine I.write (x:=p) (e:=p) (by rw[h];trivial) (.inl rfl) (λb u hb q=>(abL _ _ (abD hb)).trans q) ⟨_,e⟩ ?_
 exact⟨hz,its',n',r,e⟩
inductive R7(o:V)(i:V)(v:V)(H:Hp)(Q:Hp->Prop):Prop
 | mk (p xs k j) (_:o=.ref p) (_:i=.int k) (_:H p=some (.lst xs)) (_:JE xs.length k=some j) (_:Q (upd H p (.lst (xs.set j v))))
theorem set_list:RS X R7:=by
 intro c_ s Z H o i v ov iv u Q I ro ri rv h
 obtain⟨p,xs,k,j,rfl,rfl,hp,hj,q⟩:=h
 cases ro
 obtain⟨t,rfl⟩:=ri
 obtain⟨gU,n,r,ho,hz⟩:=I.lst hp
 obtain⟨h1,h2,h3,h4⟩:=G4 hj
 have hl:=r.length
 have hn:=ux
 have I':Inv X c_ Z (upd H p (.lst (xs.set j v))) {s with heap:=s.heap.update p (Obj.mapSeq (·.setIfInBounds j u))}:=
  I.ON hp ho (FK gU n j u) (r.set rv j) (by rw[acn];exact hz) s.toks
 by_cases h0:0<=k
 ·have hk:k.toNat=j:=by
   rw[seqIndex_of h0 h4] at h1
   exact aaz h1
  exact W.ki_setAt ho h0 (by omega) (by rw[aag,<-hl];exact h4) (by rw[hk];exact⟨_,I',q⟩)
 ·have hk:(k+(gU.toArray.size:Int)).toNat=j:=by
   rw[seqIndex_neg (by omega) h3] at h1
   rw[aag,<-hl]
   exact aaz h1
  exact W.ki_setBack ho (by omega) (by rw[aag,<-hl];exact h3) (by omega) (by rw[hk];exact⟨_,I',q⟩)
theorem Cp(lo hi:Option Int)(n:Nat):(sliceBounds lo hi none n).1=((HT.Ec n 0 lo:Nat):Int)/\(sliceBounds lo hi none n).2.1=((HT.Ec n n hi:Nat):Int)/\(sliceBounds lo hi none n).2.2=1:=by
 refine⟨?_,?_,rfl⟩
 ·cases lo with
  | none=>simp[sliceBounds,HT.Ec]
  | some i=>
   simp only [sliceBounds,HT.Ec,Option.getD_none,show(1:Int)>0 by decide,if_true]
   by_cases h:i<0
   ·simp only [h,if_true]<;>omega
   ·simp only [h,abQ]<;>omega
 ·cases hi with
  | none=>simp[sliceBounds,HT.Ec]
  | some i=>
   simp only [sliceBounds,HT.Ec,Option.getD_none,show(1:Int)>0 by decide,if_true]
   by_cases h:i<0
   ·simp only [h,if_true]<;>omega
   ·simp only [h,abQ]<;>omega
theorem A4(gU:List Value)(lo hi:Option Int):slicePick gU.toArray lo hi none=((gU.drop (HT.Ec gU.length 0 lo)).take (HT.Ec gU.length gU.length hi-HT.Ec gU.length 0 lo)).toArray:=by
 obtain⟨h1,h2,h3⟩:=Cp lo hi gU.toArray.size
 unfold slicePick
 rw[h1,h2,h3]
 simp only [sliceRange_one,pick_run,aag]<;>rfl
noncomputable def WC(K:Qqy):V->Option Int->Option Int->Hp->VK->Prop:=λx lo hi H Q=>∃a xs,x=.ref a/\gO K H a xs/\∀p,H p=none->Q (.ref p) (upd H p (.lst (vq xs lo hi)))
theorem oH:ZR X (WC X.K):=by
 intro c_ s Z H x v vl vu lo hi sl Q I rx hs pl pu h
 obtain⟨a,xs,rfl,hx,q⟩:=h
 cases rx
 obtain⟨gU,r,ht,hz⟩:=I.list hx
 have hlen:=r.length
 refine⟨"list",_,slot_list_getitem.lookup,ht.isList.typeIs,?_⟩
 refine wpAny_getItem_list_slice ht.isList hs pl pu .none (by simp) ?_ (by rw[aag]<;>omega)
 rw[A4,<-hlen]
 refine⟨.ref s.heap.objs.size,_,I.laid (t':=s.toks) (o:=.lst (vq xs lo hi)) (λb ob q=>aaj _ q) (WR _) ?_,rfl,q _ (I.iM.fresh (WR _))⟩
 exact⟨aai (Ee xs lo hi) hz,_,0,(r.drop (HT.Ec xs.length 0 lo)).take (HT.Ec xs.length xs.length hi-HT.Ec xs.length 0 lo),aax _ rfl⟩
def lF:V->Bool
 | .jg=>true
 | .bl _=>true
 | .int _=>true
 | .str _=>true
 | _=>false
noncomputable def G6:V->V->Bool
 | .jg,.jg=>true
 | .bl a,.bl b=>a ==b
 | .bl a,.int b=>(if a then 1 else 0) ==b
 | .int a,.bl b=>a ==(if b then 1 else 0)
 | .int a,.int b=>a ==b
 | .str a,.str b=>a ==b
 | _,_=>false
theorem JF{A:Around}{s:Shared}{y x:V}{u v:Value}(ry:RelV y u)(rx:RelV x v)(fy:lF y=true)(fx:lF x=true):SeqAt.EqAt A s u v (G6 y x):=by
 cases y with
 | jg=>
  cases ry
  cases x with
  | jg=>cases rx;exact SeqAt.EqAt.same _
  | bl b=>cases rx;exact SeqAt.EqAt.none_bool b
  | int b=>obtain⟨t,rfl⟩:=rx;exact SeqAt.EqAt.none_int b t
  | str b=>obtain⟨t,rfl⟩:=rx;exact SeqAt.EqAt.none_str b t
  | _=>exact absurd (show false=true from fx) aae
 | bl a=>
  cases ry
  cases x with
  | jg=>cases rx;exact SeqAt.EqAt.bool_none a
  | bl b=>cases rx;exact SeqAt.EqAt.bool_bool a b
  | int b=>obtain⟨t,rfl⟩:=rx;exact SeqAt.EqAt.bool_int a b t
  | str b=>obtain⟨t,rfl⟩:=rx;exact SeqAt.EqAt.bool_str a b t
  | _=>exact absurd (show false=true from fx) aae
 | int a=>
  obtain⟨t',rfl⟩:=ry
  cases x with
  | jg=>cases rx;exact SeqAt.EqAt.int_none a t'
  | bl b=>cases rx;exact SeqAt.EqAt.int_bool a t' b
  | int b=>obtain⟨t,rfl⟩:=rx;exact SeqAt.EqAt.int_int a t' b t
  | str b=>obtain⟨t,rfl⟩:=rx;exact SeqAt.EqAt.int_str a t' b t
  | _=>exact absurd (show false=true from fx) aae
 | str a=>
  obtain⟨t',rfl⟩:=ry
  cases x with
  | jg=>cases rx;exact SeqAt.EqAt.str_none a t'
  | bl b=>cases rx;exact SeqAt.EqAt.str_bool a t' b
  | int b=>obtain⟨t,rfl⟩:=rx;exact SeqAt.EqAt.str_int a t' b t
  | str b=>obtain⟨t,rfl⟩:=rx;exact SeqAt.EqAt.str_str a t' b t
  | _=>exact absurd (show false=true from fx) aae
 | _=>exact absurd (show false=true from fy) aae
noncomputable def L_(x:V)(u:Value):Bool:=match u with
 | .none=>G6 .jg x
 | .bool b=>G6 (.bl b) x
 | .int i _=>G6 (.int i) x
 | .str z _=>G6 (.str z) x
 | _=>false
theorem JG{x y:V}{u:Value}(r:RelV y u)(f:lF y=true):L_ x u=G6 y x:=by
 cases y with
 | jg=>cases r;rfl
 | bl b=>cases r;rfl
 | int i=>obtain⟨t,rfl⟩:=r;rfl
 | str z=>obtain⟨t,rfl⟩:=r;rfl
 | _=>exact absurd (show false=true from f) aae
theorem Cq{x:V}:∀{xs:List V} {us:List Value},Vals xs us->xs.all lF=true->us.any (L_ x)=xs.any λy=>G6 y x
 | _,_,.nil,_=>rfl
 | y::xs,u::us,.cons r t,f=>by
  rw[List.all_cons,aa8] at f
  rw[abX,abX,JG r f.1,Cq t f.2]
theorem zr{A:Around}{s:Shared}{x:V}{v:Value}(rx:RelV x v)(fx:lF x=true):∀{xs:List V} {us:List Value},Vals xs us->xs.all lF=true->∀u∈us,SeqAt.EqAt A s u v (L_ x u)
 | _,_,.nil,_=>λu hu=>by cases hu
 | y::xs,u::us,.cons r t,f=>λu' hu=>by
  rw[List.all_cons,aa8] at f
  rcases XH.mp hu with rfl|hu
  ·rw[JG r f.1];exact JF r rx f.1 fx
  ·exact zr rx fx t f.2 u' hu
noncomputable def U9(x:V)(xs:List V):Bool:=xs.any λy=>G6 y x
inductive rIn(K:Qqy)(neg:Bool)(x:V)(y:V)(H:Hp)(Q:VK):Prop
 | mk (p xs) (_:y=.ref p) (_:(gO K H p xs\/pf K H p xs)) (_:lF x=true) (_:xs.all lF=true) (_:Q (.bl (if neg then !U9 x xs else U9 x xs)) H)
theorem H_:wC X (compareOp .In) (rIn X.K false):=by
 intro c_ s Z H x y v u Q I rx ry h
 obtain⟨p,xs,rfl,hq,fx,fs,q⟩:=h
 cases ry
 rcases hq with hq|hq
 ·obtain⟨gU,r,pl,hz⟩:=I.list hq
  refine SeqAt.in_listAt (L_ x) pl.isList (λw hw=>zr rx fx r fs w (by simpa using hw)) ⟨.bl _,H,I,rfl,?_⟩
  rw[show gU.toArray.any (L_ x)=gU.any (L_ x) by simp,Cq r fs]
  exact q
 ·obtain⟨gU,r,pl,hz⟩:=I.tuple hq
  refine SeqAt.in_tupleAt (L_ x) pl (λw hw=>zr rx fx r fs w (by simpa using hw)) ⟨.bl _,H,I,rfl,?_⟩
  rw[show gU.toArray.any (L_ x)=gU.any (L_ x) by simp,Cq r fs]
  exact q
theorem gD:ve X (.builtin "len") (λxs H Q=>∃p ys,xs=[.ref p]/\(gO X.K H p ys\/pf X.K H p ys)/\Q (.int ys.length) H):=by
 intro c_ s Z H xs us Q I r h
 obtain⟨p,ys,rfl,hq,q⟩:=h
 obtain⟨u,rfl,rx⟩:=vals1 r
 cases rx
 have hn:=ux
 rcases hq with hq|hq
 ·obtain⟨gU,r',pl,hz⟩:=I.list hq
  have hlen:=r'.length
  exact Calls.call_len_list pl.isList (by simp only [aag]<;>omega) ⟨.int ys.length,H,I.tok _,⟨s.toks+1,by rw[aag,hlen]⟩,q⟩
 ·obtain⟨gU,r',pl,hz⟩:=I.tuple hq
  have hlen:=r'.length
  exact len_tuple pl (by simp only [aag]<;>omega) ⟨.int ys.length,H,I.tok _,⟨s.toks+1,by rw[aag,hlen]⟩,q⟩
theorem vt:ve X (.builtin "len") (λxs H Q=>∃z,xs=[.str z]/\z.length<=sizeLine/\Q (.int z.length) H):=by
 intro c_ s Z H xs us Q I r h
 obtain⟨z,rfl,hz,q⟩:=h
 obtain⟨u,rfl,t,rfl⟩:=vals1 r
 have hn:=ux
 exact len_str (by omega) ⟨.int z.length,H,I.tok _,⟨_,rfl⟩,q⟩
theorem Cr:ve X (.type "list") (λxs H Q=>∃p ys,xs=[.ref p]/\(gO X.K H p ys\/pf X.K H p ys)/\∀l,H l=none->Q (.ref l) (upd H l (.lst ys))):=by
 intro c_ s Z H xs us Q I r h
 obtain⟨p,ys,rfl,hq,q⟩:=h
 obtain⟨u,rfl,rx⟩:=vals1 r
 cases rx
 have fin:∀(gU:List Value),Vals ys gU->ys.length<=sizeLine->∀(h':Heap)(c':Nat),(∀b o',s.heap.get? b=some o'->h'.get? b=some o')->
   h'.get? s.heap.objs.size=some {cls:=.type "list",dict:=none,data:=.seq gU.toArray c',slots:=#[]}->EP X c_ Z Q (.ref s.heap.objs.size) {s with heap:=h'}:=λgU r' hz h' c' kp e=>
  ⟨.ref s.heap.objs.size,_,I.laid (t':=s.toks) kp (WR _) (show i7 X.prog X.w _ h' _ (.lst ys) from ⟨hz,gU,c',r',e⟩),rfl,q _ (I.iM.fresh (WR _))⟩
 rcases hq with hq|hq
 ·obtain⟨gU,r',pl,hz⟩:=I.list hq
  have hlen:=r'.length
  obtain⟨o,ho,hc,n,hd⟩:=pl.isList
  exact call_list_seq p (.inl rfl) ho hc hd (λh' c' kp e=>fin gU r' hz h' c' kp e) (by simp only [aag]<;>omega)
 ·obtain⟨gU,r',pl,hz⟩:=I.tuple hq
  have hlen:=r'.length
  obtain⟨o,ho,hc,n,hd⟩:=pl
  exact call_list_seq p (.inr rfl) ho hc hd (λh' c' kp e=>fin gU r' hz h' c' kp e) (by simp only [aag]<;>omega)
def WD(K:Qqy)(T:String)(x:V)(H:Hp):Prop:=match x with
 | .str _=>T="str"
 | .int _=>T="int"
 | .ref p=>(T="list"/\∃xs,gO K H p xs)\/(T="tuple"/\∃o,K.lookup p=some o/\o.cls=.type "tuple"/\o.dict=none)\/
  (T="dict"/\((∃kvs,H p=some (.dK kvs))\/∃kvs,H p=some (.dT kvs)))\/(T="set"/\∃S n,H p=some (.set S n))
 | _=>False
theorem JH{c_:Qqz}{Z:St}{H:Hp}{s:Shared}{T:String}{x:V}{v:Value}(I:Inv X c_ Z H s)(r:RelV x v)(ty:WD X.K T x H) :
  s.TypeIs v T/\∀a,v=.ref a->∃ob,s.heap.get? a=some ob/\ob.dict=none:=by
 cases x with
 | str z=>
  obtain⟨t,rfl⟩:=r
  cases (show T="str" from ty)
  exact⟨typeIs_str s z t,λ_ e=>nomatch e⟩
 | int i=>
  obtain⟨t,rfl⟩:=r
  cases (show T="int" from ty)
  exact⟨typeIs_int s i t,λ_ e=>nomatch e⟩
 | ref p=>
  cases r
  rcases ty with⟨rfl,xs,hq⟩|⟨rfl,o,hk,hc,hd⟩|⟨rfl,hk⟩|⟨rfl,S,n,hk⟩
  ·obtain⟨gU,_,pl,_⟩:=I.list hq
   refine⟨pl.isList.typeIs,λa e=>?_⟩
   cases e
   obtain⟨o,n,e,c,hd,_⟩:=pl
   exact⟨o,e,hd⟩
  ·refine⟨⟨o,I.xK p o hk,hc⟩,λa e=>?_⟩
   cases e
   exact⟨o,I.xK _ o hk,hd⟩
  ·have z:∃o,s.heap.get? p=some o/\o.ExactDict:=by
    rcases hk with⟨kvs,hk⟩|⟨kvs,hk⟩
    ·obtain⟨_,_,_,_,o,_,_,e,ex,_⟩:=I.iM p _ hk
     exact⟨o,e,ex⟩
    ·obtain⟨_,_,_,_,o,_,_,e,ex,_⟩:=I.iM p _ hk
     exact⟨o,e,ex⟩
   obtain⟨o,e,ex⟩:=z
   refine⟨⟨o,e,ex.1⟩,λa e2=>?_⟩
   cases e2
   exact⟨o,e,ex.2.1⟩
  ·obtain⟨o,_,_,_,e,ex,_⟩:=I.iM p _ hk
   refine⟨⟨o,e,ex.1⟩,λa e2=>?_⟩
   cases e2
   exact⟨o,e,ex.2.1⟩
 | _=>exact False.elim ty
def WE(K:Qqy)(T:String)(r:V->List V->Hp->VK->Prop)(to:TE):TE:=λZ H Q=>to Z H λx H1=>WD K T x H1/\r x [] H1 Q
def tBM(K:Qqy)(T:String)(r:V->List V->Hp->VK->Prop)(to:TE)(t:TA):TE:=λZ H Q=>to Z H λx H1=>WD K T x H1/\t Z H1 λxs H2=>r x xs H2 Q
variable{o e:Expr}{es:List Expr}{to:TE}{t:TA}{name:Str}{apos kZ:Pos}{T id:String}{r:V->List V->Hp->VK->Prop}
theorem OO(pa:PlainAttrs T)(slot:Slot T name id)(Tg:typeOf (.builtin id)=pure (.type "method_descriptor"))(hm:Wz X id r)(ho:PE X o to)
  (Lm:attributeBase o name X.env (eval o X.env)=eval o X.env:=by rfl) (Lo:(apos.endLine ==kZ.line)=true:=by rfl):PE X (.Call (.Attribute o name apos) [] [] kZ) (WE X.K T r to):=by
 intro c_ s Z H Q I h
 refine wpAny_Call_method0_late Lm Lo (i8 (ho c_ s Z H _ I h) λv s1 iJ=>?_)
 obtain⟨x,H1,I1,r1,ty,q1⟩:=iJ
 obtain⟨h1,h2⟩:=JH I1 r1 ty
 exact⟨T,id,pa,slot,Tg,h1,h2,abe rfl (PySem.evalArgs_none (hm c_ s1 Z H1 x [] v [] Q I1 r1 .nil q1))⟩
theorem nS(pa:PlainAttrs T)(slot:Slot T name id)(Tg:typeOf (.builtin id)=pure (.type "method_descriptor"))(hm:Wz X id r)(ho:PE X o to)(ha:PA X (e::es) t)
  (Lm:attributeBase o name X.env (eval o X.env)=eval o X.env:=by rfl)
  (Xh:((backTo kZ (starEach (e::es) X.env)).all (λx=>!x.1)&&(backToKw kZ (keywordEach [] X.env)).all (λx=>x.1.isSome)
   &&decide ((e::es).length+([]:List Keyword).length+(if([]:List Keyword).isEmpty then 0 else 1)<30))=true:=by rfl)
  (Lo:(apos.endLine ==kZ.line)=true:=by rfl) (hs:starEach (e::es) X.env=(false,eval e X.env)::starEach es X.env:=by rfl) (Qq:(backTo kZ (starEach es X.env)).any (·.1)=false:=by rfl) :
  PE X (.Call (.Attribute o name apos) (e::es) [] kZ) (tBM X.K T r to t):=by
 intro c_ s Z H Q I h
 refine wpAny_Call_method_late Lm Xh Lo rfl (i8 (ho c_ s Z H _ I h) λv s1 iJ=>?_)
 obtain⟨x,H1,I1,r1,ty,q1⟩:=iJ
 obtain⟨h1,h2⟩:=JH I1 r1 ty
 refine⟨T,id,pa,slot,Tg,h1,h2,?_⟩
 have hA:=ha kZ c_ s1 Z H1 _ I1 q1
 rw[hs] at hA ⊢
 refine abe (by show(false||(backTo kZ (starEach es X.env)).any (·.1))=false;rw[Qq]<;>rfl) (abp ?_)
 exact i8 hA λus s2 ⟨vs,H2,I2,r2,q2⟩=>hm c_ s2 Z H2 x vs v us Q I2 r1 r2 q2
end
def U_(X:Cx)(id:String)(r:V->List V->Hp->VK->Prop):Prop:=
 ∀(c_:Qqz)(s:Shared)(Z:St)(H:Hp)(x:V)(xs:List V)(v:Value)(us:List Value)(Q:VK),Inv X c_ Z H s->RelV x v->Vals xs us->r x xs H Q->
  wpAny (model X.prog X.w) X.A (call (.builtin id) (v::us)) (EP X c_ Z Q) X.xe s
theorem Vals.one:∀{x:V} {us:List Value},Vals [x] us->∃u,us=[u]/\RelV x u
 | _,_,.cons r .nil=>⟨_,rfl,r⟩
theorem Vals.zero:∀{us:List Value},Vals [] us->us=[]
 | _,.nil=>rfl
theorem Vals.dropLast{xs:List V}{us:List Value}(h:Vals xs us):Vals xs.dropLast us.dropLast:=by
 induction h with
 | nil=>exact .nil
 | cons r t ih=>
  cases t with
  | nil=>exact .nil
  | cons q t'=>exact .cons r ih
theorem Vals.rep{xs:List V}{us:List Value}(h:Vals xs us):∀k:Nat,Vals (List.replicate k xs).flatten (List.replicate k us).flatten
 | 0=>.nil
 | k+1=>by
  rw[aa6,aa6,abT,abT]
  exact Vals.append h (Vals.rep h k)
theorem FL{Z:Type}(l:List Z):l.eraseIdx (l.length-1)=l.dropLast:=by
 induction l with
 | nil=>rfl
 | cons a r ih=>
  cases r with
  | nil=>rfl
  | cons b r=>
   have e:(a::b::r).length-1=((b::r).length-1)+1:=by
    have h1:(a::b::r).length=r.length+2:=rfl
    have h2:(b::r).length=r.length+1:=rfl
    omega
   rw[e,List.eraseIdx_cons_succ,ih]
   all_goals rfl
theorem foldl_rep(gU:List Value):∀(k:Nat)(acc:List Value),
  List.foldl (λx1 x2=>x1++x2) acc.toArray (List.replicate k gU.toArray)=(acc++(List.replicate k gU).flatten).toArray
 | 0,acc=>by simp
 | k+1,acc=>by
  have e:acc.toArray++gU.toArray=(acc++gU).toArray:=by simp
  have e2:(acc++gU)++(List.replicate k gU).flatten=acc++(List.replicate (k+1) gU).flatten:=by
   rw[aa6,abT,aaO]
  rw[<-e2,<-foldl_rep gU k (acc++gU),<-e,aa6,List.foldl_cons]
section
variable{X:Cx}{c_:Qqz}{Z:St}{H:Hp}{s:Shared}{l b:Addr}{xs ys zs:List V}
theorem Inv.OP{gU its':List Value}{n:Nat}{f:Array Value->Array Value}{t':Nat}(I:Inv X c_ Z H s)(hH:H l=some (.lst xs))
  (e:s.heap.get? l=some {cls:=.type "list",data:=.seq gU.toArray n}) (hf:f gU.toArray=its'.toArray) (hv:Vals ys its') (hz:ys.length<=sizeLine) :
  Inv X c_ Z (upd H l (.lst ys)) {s with heap:=s.heap.update l (Obj.mapSeq f),toks:=t'}:=by
 have q:=PySem.IsL.update e f
 rw[hf] at q
 refine I.write (x:=l) (e:=l) (by rw[hH];exact trivial) (.inl rfl) (λb' u hb hu=>(abL s.heap (Obj.mapSeq f) (abD hb)).trans hu) ⟨_,q⟩ ?_
 exact⟨hz,its',_,hv,q⟩
theorem Inv.Ma{gU:List Value}{t':Nat}(I:Inv X c_ Z H s)(hv:Vals ys gU)(hz:ys.length<=sizeLine) :
  Inv X c_ Z (upd H s.heap.objs.size (.lst ys)) {s with heap:=s.heap.push {cls:=.type "list",data:=.seq gU.toArray},toks:=t'}:=
 I.laid (λ_ _ q=>aaj _ q) (WR _) ⟨hz,gU,0,hv,aax _ rfl⟩
theorem Inv.fresh(I:Inv X c_ Z H s):H s.heap.objs.size=none:=I.iM.fresh (WR _)
theorem Inv.Eg(I:Inv X c_ Z H s)(hH:H l=some (.lst xs)):xs.length<=sizeLine/\∃(gU:List Value)(n:Nat),Vals xs gU/\xs.length=gU.length/\s.heap.get? l=some {cls:=.type "list",data:=.seq gU.toArray n}:=by
 obtain⟨z,gU,n,r,e⟩:=I.iM l _ hH
 exact⟨z,gU,n,r,r.length,e⟩
theorem Eh{n:Nat}(h:n<=sizeLine):Builtin.List.listTooLong n=false:=by
 unfold Builtin.List.listTooLong
 exact ZW (by omega)
end
section
variable{X:Cx}
inductive Mb(x:V)(vs:List V)(H:Hp)(Q:VK):Prop
 | mk (l xs y) (_:x=.ref l) (_:vs=[y]) (_:H l=some (.lst xs)) (_:xs.length<sizeLine) (_:Q .jg (upd H l (.lst (xs++[y]))))
theorem kj:U_ X "list.append" Mb:=by
 intro c_ s Z H x vs v us Q I rx rv h
 obtain⟨l,xs,y,rfl,rfl,hH,hz,q⟩:=h
 cases rx
 obtain⟨u,rfl,ru⟩:=rv.one
 obtain⟨z,gU,n,r,hl,e⟩:=I.Eg hH
 refine call_meets F.slot_list_append ⟨_,e,rfl⟩ F.entry_list_append (F.args_list_append_2 _ _) (PySem.list_append l gU.toArray n u (by rw[aag];omega)) ⟨e,?_⟩
 refine⟨.jg,_,I.OP (its':=gU++[u]) hH e (by simp) (r.append (.cons ru .nil)) ?_,rfl,q⟩
 rw[XF,List.length_singleton]
 omega
def Mc:V->List V->Hp->VK->Prop:=λx vs H Q=>∃l b xs zs,x=.ref l/\vs=[.ref b]/\H l=some (.lst xs)/\H b=some (.lst zs)/\xs.length+zs.length<=sizeLine/\Q .jg (upd H l (.lst (xs++zs)))
theorem BD:U_ X "list.extend" Mc:=by
 intro c_ s Z H x vs v us Q I rx rv h
 obtain⟨l,b,xs,zs,rfl,rfl,hH,hB,hz,q⟩:=h
 cases rx
 obtain⟨u,rfl,ru⟩:=rv.one
 cases ru
 obtain⟨z,gU,n,r,hl,e⟩:=I.Eg hH
 obtain⟨z2,lW,n2,r2,HH,e2⟩:=I.Eg hB
 have hsz:gU.toArray.size+lW.toArray.size<=sizeLine:=by rw[aag,aag];omega
 have Lp:¬(!gU.toArray.isEmpty&&Builtin.List.listTooLong (gU.toArray.size+lW.toArray.size))=true:=by
  rw[Eh hsz,Bool.and_false]
  exact aae
 refine call_meets F.slot_list_extend ⟨_,e,rfl⟩ F.entry_list_extend (F.args_list_extend_2 _ _)
  (AutoSeq1.list_extend_list_list_0 l gU.toArray n b lW.toArray n2 Lp (by rw[aag];omega) (by omega)) ⟨e,e2,?_⟩
 refine⟨.jg,_,I.OP (its':=gU++lW) hH e (by simp) (r.append r2) ?_,rfl,q⟩
 rw[XF]
 omega
def WG:V->List V->Hp->VK->Prop:=λx vs H Q=>∃l xs y,x=.ref l/\vs=[]/\H l=some (.lst xs)/\xs[xs.length-1]?=some y/\Q y (upd H l (.lst xs.dropLast))
theorem OQ:U_ X "list.pop" WG:=by
 intro c_ s Z H x vs v us Q I rx rv h
 obtain⟨l,xs,y,rfl,rfl,hH,hy,q⟩:=h
 cases rx
 have hus:=rv.zero
 subst hus
 obtain⟨z,gU,n,r,hl,e⟩:=I.Eg hH
 obtain⟨u,hu,ru⟩:=r.get hy
 have Vl:gU.toArray[gU.toArray.size-1]?=some u:=by
  show gU.toArray[gU.length-1]?=some u
  rw[<-aa7,<-hl]
  exact hu
 refine call_meets F.slot_list_pop ⟨_,e,rfl⟩ F.entry_list_pop (F.args_list_pop_1 _) (MeetsSeq.list_pop_last l gU.toArray n u Vl (by rw[aag];omega)) ⟨e,?_⟩
 refine⟨y,_,I.OP (its':=gU.dropLast) hH e ?_ r.dropLast ?_,ru,q⟩
 ·show gU.toArray.eraseIdxIfInBounds (gU.toArray.size-1)=gU.dropLast.toArray
  rw[aag,List.eraseIdxIfInBounds_toArray,FL]
 ·rw[List.length_dropLast]
  omega
inductive WH(x:V)(y:V)(H:Hp)(Q:VK):Prop
 | mk (l b xs zs) (_:x=.ref l) (_:y=.ref b) (_:H l=some (.lst xs)) (_:H b=some (.lst zs)) (_:xs.length+zs.length<=sizeLine) (_:∀p,H p=none->Q (.ref p) (upd H p (.lst (xs++zs))))
theorem mT:wC X (binaryOp .Add) WH:=by
 intro c_ s Z H x y v u Q I rx ry h
 obtain⟨l,b,xs,zs,rfl,rfl,hH,hB,hz,q⟩:=h
 cases rx
 cases ry
 obtain⟨z,gU,n,r,hl,e⟩:=I.Eg hH
 obtain⟨z2,lW,n2,r2,HH,e2⟩:=I.Eg hB
 refine PySem.P.add_list e e2 ?_ (by rw[aag,aag];omega)
 have ea:gU.toArray++lW.toArray=(gU++lW).toArray:=by simp
 rw[ea]
 exact⟨.ref _,_,I.Ma (t':=s.toks) (r.append r2) (by rw[XF];omega),rfl,q _ I.fresh⟩
def WI:R2:=λx y H Q=>∃l k xs,x=.ref l/\y=.int k/\H l=some (.lst xs)/\-(2 ^ 63)<=k/\k<2 ^ 63/\xs.length*k.toNat<=sizeLine/\
 ∀p,H p=none->Q (.ref p) (upd H p (.lst (List.replicate k.toNat xs).flatten))
theorem len_rep{Z:Type}(xs:List Z)(k:Nat):(List.replicate k xs).flatten.length=k*xs.length:=by
 induction k with
 | zero=>simp
 | succ k ih=>rw[aa6,abT,XF,ih,Nat.succ_mul,Nat.add_comm]
theorem FN:wC X (binaryOp .Mult) WI:=by
 intro c_ s Z H x y v u Q I rx ry h
 obtain⟨l,k,xs,rfl,rfl,hH,h1,h2,hz,q⟩:=h
 cases rx
 obtain⟨t,rfl⟩:=ry
 obtain⟨z,gU,n,r,hl,e⟩:=I.Eg hH
 have hlen:gU.toArray.size*k.toNat<=sizeLine:=by rw[aag,<-hl];exact hz
 have Xi:¬gU.toArray.size*k.toNat>(2 ^ 63-1)/8:=by
  have:(sizeLine:Nat)<=(2 ^ 63-1)/8:=by decide
  omega
 have Xj:¬(!Builtin.List.listFitsIndex k)=true:=by
  rw[fitsIndex_both h1 h2]
  exact aae
 have Lp:¬Builtin.List.listTooLong (gU.toArray.size*k.toNat)=true:=by
  rw[Eh hlen]
  exact aae
 have Xk:List.foldl (λx1 x2=>x1++x2) #[] (List.replicate (if gU.toArray.isEmpty=true then 0 else k.toNat) gU.toArray)=(List.replicate k.toNat gU).flatten.toArray:=by
  have f0:∀m:Nat,List.foldl (λx1 x2=>x1++x2) #[] (List.replicate m gU.toArray)=(List.replicate m gU).flatten.toArray:=λm=>by
   have:=foldl_rep gU m []
   rw[List.nil_append] at this
   exact this
  rw[f0]
  cases gU with
  | nil=>simp
  | cons a r'=>rw[aac (by simp)]
 refine wpAny_binaryOp_repeat_ref (T:="list") (U:="int") (by decide) ⟨_,e,rfl⟩ (λs'=>typeIs_int s' k t) noFill_list_mul F.fills_int_mul F.slot_int_rmul repeat_list F.slot_int_index.lookup
  (call_meets F.slot_int_rmul (typeIs_int s k t) F.entry_int_rmul (F.args_int_rmul_2 _ _) (int___rmul___int_list k t l gU.toArray n)
   ⟨e,rfl,⟨_,e,rfl⟩,call_meets F.slot_list_mul ⟨_,e,rfl⟩ F.entry_list_mul (F.args_list_mul_2 _ _) (AutoListH.list___mul___list_int_3 l gU.toArray n k t Xj Xi Lp) ⟨e,?_⟩⟩)
 rw[Xk]
 exact⟨.ref _,_,I.Ma (t':=s.toks) (r.rep k.toNat) (by rw[len_rep,Nat.mul_comm];exact hz),rfl,q _ I.fresh⟩
end
section
variable{prog:Program}{w:World}{A:Around}{E:Qqq}{s:Shared}
end
section
variable{X:Cx}
end
section
variable{Z:Type}[DecidableEq Z]
def iT(kvs:List (Z×V))(k:Z):Option V:=(kvs.find? λkv=>decide (kv.1=k)).map (·.2)
def putK(kvs:List (Z×V))(k:Z)(v:V):List (Z×V):=
 if(kvs.any λkv=>decide (kv.1=k))=true then kvs.map (λkv=>if kv.1=k then(kv.1,v) else kv) else kvs++[(k,v)]
def jZ(kvs:List (Z×V))(k:Z):List (Z×V):=kvs.filter λkv=>decide (kv.1≠k)
theorem jl{p:Z×V}{r:List (Z×V)}{k:Z}(e:p.1=k):iT (p::r) k=some p.2:=by simp[iT,ab6,e]
theorem jf{p:Z×V}{r:List (Z×V)}{k:Z}(e:¬p.1=k):iT (p::r) k=iT r k:=by simp[iT,ab6,e]
theorem rM(k:Z):∀kvs:List (Z×V),(kvs.any λkv=>decide (kv.1=k))=(iT kvs k).isSome
 | []=>rfl
 | p::r=>by
  rw[abX]
  by_cases e:p.1=k
  ·simp only [jl e,WV e,Bool.true_or,Option.isSome_some]
  ·rw[jf e,ZW e,Bool.false_or];exact rM k r
theorem Ei(k j:Z)(y:V):∀kvs:List (Z×V),iT (kvs.map λkv=>if kv.1=k then(kv.1,y) else kv) j=(iT kvs j).map λx=>if j=k then y else x
 | []=>rfl
 | p::r=>by
  have ih:=Ei k j y r
  rw[aat]
  by_cases h:p.1=k
  ·rw[aan h]
   by_cases e:p.1=j
   ·rw[jl (p:=(p.1,y)) e,jl e,ab7,aan (e.symm.trans h)]
   ·rw[jf (p:=(p.1,y)) e,jf e,ih]
  ·rw[aac h]
   by_cases e:p.1=j
   ·rw[jl (p:=p) e,jl e,ab7,aac (λz=>h (e.trans z))]
   ·rw[jf (p:=p) e,jf e,ih]
theorem BE(k j:Z)(y:V):∀kvs:List (Z×V),iT kvs k=none->iT (kvs++[(k,y)]) j=if j=k then some y else iT kvs j
 | [],_=>by
  by_cases e:k=j
  ·rw[aan e.symm];exact jl (p:=(k,y)) e
  ·rw[aac (λz=>e z.symm)];exact jf (p:=(k,y)) e
 | p::r,hn=>by
  rw[List.cons_append]
  have hk:¬p.1=k:=λz=>by rw[jl z] at hn;cases hn
  rw[jf hk] at hn
  have ih:=BE k j y r hn
  by_cases e:p.1=j
  ·rw[jl e,jl e,aac (λz=>hk (e.trans z))]
  ·rw[jf e,jf e,ih]
theorem kc(kvs:List (Z×V))(k j:Z)(y:V):iT (putK kvs k y) j=if j=k then some y else iT kvs j:=by
 unfold putK
 by_cases a:(kvs.any λkv=>decide (kv.1=k))=true
 ·rw[aan a,Ei]
  rw[rM] at a
  by_cases e:j=k
  ·obtain⟨x,hx⟩:=Option.isSome_iff_exists.mp a
   rw[aan e,e,hx,ab7,aan rfl]
  ·rw[aac e]
   cases iT kvs j with
   | none=>rfl
   | some x=>rw[ab7,aac e]
 ·rw[aac a]
  refine BE k j y kvs ?_
  rw[rM] at a
  cases q:iT kvs k with
  | none=>rfl
  | some x=>rw[q] at a;exact(a rfl).elim
theorem jr(kvs:List (Z×V))(k:Z)(v:V):(putK kvs k v).length<=kvs.length+1:=by
 unfold putK
 split
 ·rw[Ob];omega
 ·rw[XF,ZY,List.length_nil];omega
theorem Ej{kvs:List (Z×V)}{k:Z}(v:V)(h:iT kvs k=none):putK kvs k v=kvs++[(k,v)]:=by
 unfold putK
 rw[rM,h]
 exact aac (by decide)
theorem pM.pQ{o:Option V}{u:Option Value}(r:pM o u):o.isSome=u.isSome:=by
 cases o with
 | none=>cases u with
  | none=>rfl
  | some _=>exact(show False from r).elim
 | some _=>cases u with
  | none=>exact(show False from r).elim
  | some _=>rfl
theorem pM.getD{o:Option V}{u:Option Value}{d:V}{d':Value}(r:pM o u)(rd:RelV d d'):RelV (o.getD d) (u.getD d'):=by
 cases o with
 | none=>cases u with
  | none=>exact rd
  | some _=>exact(show False from r).elim
 | some _=>cases u with
  | none=>exact(show False from r).elim
  | some _=>exact r
theorem KV.val{kvs:List (Z×V)}{vs:List (Z×Value)}(r:KV kvs vs)(k:Z):pM (iT kvs k) (valueAt vs k):=by
 unfold KV at r
 induction r with
 | nil=>exact True.intro
 | @cons p q ps qs h t ih=>
  obtain⟨h1,h2⟩:=h
  by_cases e:p.1=k
  ·have e':q.1=k:=h1.symm.trans e
   have b:valueAt (q::qs) k=some q.2:=by simp[valueAt,ab6,e']
   rw[jl e,b];exact h2
  ·have e':¬q.1=k:=λz=>e (h1.trans z)
   have b:valueAt (q::qs) k=valueAt qs k:=by simp[valueAt,ab6,e']
   rw[jf e,b];exact ih
theorem KV.any{kvs:List (Z×V)}{vs:List (Z×Value)}(r:KV kvs vs)(k:Z):(kvs.any λkv=>decide (kv.1=k))=vs.any λkv=>decide (kv.1=k):=by
 unfold KV at r
 induction r with
 | nil=>rfl
 | cons h t ih=>rw[abX,abX,ih,h.1]
theorem KV.OR{kvs:List (Z×V)}{vs:List (Z×Value)}(r:KV kvs vs)(k:Z){y:V}{u:Value}(ry:RelV y u) :
  KV (kvs.map λkv=>if kv.1=k then(kv.1,y) else kv) (vs.map λkv=>if kv.1=k then(kv.1,u) else kv):=by
 unfold KV at r ⊢
 induction r with
 | nil=>exact .nil
 | @cons p q ps qs h t ih=>
  rw[aat,aat]
  refine .cons ?_ ih
  obtain⟨h1,h2⟩:=h
  by_cases e:p.1=k
  ·rw[aan e,aan (h1.symm.trans e)];exact⟨h1,ry⟩
  ·rw[aac e,aac (λz=>e (h1.trans z))];exact⟨h1,h2⟩
theorem KV.put{kvs:List (Z×V)}{vs:List (Z×Value)}(r:KV kvs vs)(k:Z){y:V}{u:Value}(ry:RelV y u):KV (putK kvs k y) (stored vs k u):=by
 unfold putK stored
 rw[r.any k]
 by_cases e:(vs.any λkv=>decide (kv.1=k))=true
 ·rw[aan e,aan e];exact r.OR k ry
 ·rw[aac e,aac e];exact Paired.snoc r ⟨rfl,ry⟩
theorem KV.drop{kvs:List (Z×V)}{vs:List (Z×Value)}(r:KV kvs vs)(k:Z):KV (jZ kvs k) (without vs k):=by
 unfold KV at r ⊢
 unfold jZ without
 induction r with
 | nil=>exact .nil
 | @cons p q ps qs h t ih=>
  obtain⟨h1,h2⟩:=h
  rw[List.filter_cons,List.filter_cons]
  by_cases e:p.1=k
  ·have a:¬decide (p.1≠k)=true:=by simp[e]
   have b:¬decide (q.1≠k)=true:=by simp[h1.symm.trans e]
   rw[aac a,aac b];exact ih
  ·have e':¬q.1=k:=λz=>e (h1.trans z)
   have a:decide (p.1≠k)=true:=by simp[e]
   have b:decide (q.1≠k)=true:=by simp[e']
   rw[aan a,aan b];exact .cons ⟨h1,h2⟩ ih
theorem KV.length{kvs:List (Z×V)}{vs:List (Z×Value)}(r:KV kvs vs):kvs.length=vs.length:=aak r
theorem Ek(kvs:List (Z×V))(k:Z):(jZ kvs k).length<=kvs.length:=aaN _ _
end
theorem zt{P:Program}{w:World}{k:Key}{u:Value}(r:RelV (kV k) u):(ji P w).is k u=true:=by
 cases k with
 | inl i=>obtain⟨t,e⟩:=(show ∃t,u=Value.int i t from r);subst e;exact DY P w i t
 | inr x=>obtain⟨t,e⟩:=(show ∃t,u=Value.str x t from r);subst e;exact DZ P w x t
theorem BF{P:Program}{w:World}:∀{ks:List Key} {us:List Value},Vals (ks.map kV) us->ItemsAre (ji P w) ks us
 | [],_,r=>by rw[List.map_nil] at r;cases r;exact .nil
 | k::ks,_,r=>by
  rw[aat] at r
  cases r with
  | cons h t=>exact .cons (zt h) (BF t)
abbrev KT(H:Hp):List (List Key×V)->List (List Key×Addr×Value)->Prop:=Paired λp q=>p.1=q.1/\H q.2.1=some (.tup (p.1.map kV))/\RelV p.2 q.2.2
theorem KT.val{H:Hp}{kvs:List (List Key×V)}{xs:List (List Key×Addr×Value)}(r:KT H kvs xs)(k:List Key):pM (iT kvs k) ((atKey xs k).map (·.2)):=by
 induction r with
 | nil=>exact True.intro
 | @cons p q ps qs h t ih=>
  obtain⟨h1,_,h2⟩:=h
  by_cases e:p.1=k
  ·have e':q.1=k:=h1.symm.trans e
   have b:atKey (q::qs) k=some q.2:=by simp[atKey,ab6,e']
   rw[jl e,b];exact h2
  ·have e':¬q.1=k:=λz=>e (h1.trans z)
   have b:atKey (q::qs) k=atKey qs k:=by simp[atKey,ab6,e']
   rw[jf e,b];exact ih
theorem KT.OR{H:Hp}{kvs:List (List Key×V)}{xs:List (List Key×Addr×Value)}(r:KT H kvs xs)(k:List Key){y:V}{u:Value}(ry:RelV y u) :
  KT H (kvs.map λkv=>if kv.1=k then(kv.1,y) else kv) (xs.map (putAt k u)):=by
 induction r with
 | nil=>exact .nil
 | @cons p q ps qs h t ih=>
  rw[aat,aat]
  refine .cons ?_ ih
  obtain⟨h1,h2,h3⟩:=h
  unfold putAt
  by_cases e:p.1=k
  ·rw[aan e,aan (h1.symm.trans e)];exact⟨h1,h2,ry⟩
  ·rw[aac e,aac (λz=>e (h1.trans z))];exact⟨h1,h2,h3⟩
theorem KT.put{H:Hp}{kvs:List (List Key×V)}{xs:List (List Key×Addr×Value)}(r:KT H kvs xs)(k:List Key){b:Addr}{y:V}{u:Value}(hb:H b=some (.tup (k.map kV)))(ry:RelV y u) :
  KT H (putK kvs k y) (storedH xs k b u):=by
 have e:(kvs.any λkv=>decide (kv.1=k))=(atKey xs k).isSome:=by
  rw[rM,(r.val k).pQ,Option.isSome_map]
 unfold putK storedH
 rw[e]
 by_cases q:(atKey xs k).isSome=true
 ·rw[aan q,aan q];exact r.OR k ry
 ·rw[aac q,aac q];exact Paired.snoc r ⟨rfl,hb,ry⟩
theorem KT.keeps{H H':Hp}{kvs:List (List Key×V)}{xs:List (List Key×Addr×Value)}(r:KT H kvs xs)(ht:∀b ys,H b=some (.tup ys)->H' b=some (.tup ys)):KT H' kvs xs:=
 Paired.jh r λ_ _ z=>⟨z.1,ht _ _ z.2.1,z.2.2⟩
section
variable{P:Program}{w:World}{H:Hp}{h:Heap}{a:Addr}
theorem NO{u:HO}(ok:rD P w H h)(e:Rd H a u):i7 P w H h a u:=e.ok ok
theorem xP{kvs:List (Key×V)}(ok:rD P w H h)(e:Rd H a (.dK kvs)):kvs.length<=sizeLine/\(a ==sysModules)=false/\∃vs,KV kvs vs/\h.DictOf (ji P w) a vs:=
 show i7 P w H h a (.dK kvs) from NO ok e
theorem JI{kvs:List (Key×V)}(ok:rD P w H h)(e:H a=some (.dK kvs)):kvs.length<=sizeLine/\(a ==sysModules)=false/\∃vs,KV kvs vs/\h.DictOf (ji P w) a vs:=xP ok (.inl e)
theorem uy{ks:List Key}(ok:rD P w H h)(e:H a=some (.tup (ks.map kV))):(tupleKind (ji P w)).is h ks a:=by
 obtain⟨_,gU,r,o,h1,h2,n,h3⟩:=(show i7 P w H h a (.tup (ks.map kV)) from ok a _ e)
 exact⟨o,gU.toArray,n,h1,h2,h3,by simpa using BF r⟩
theorem xQ{kvs:List (List Key×V)}(ok:rD P w H h)(e:Rd H a (.dT kvs)):kvs.length<=sizeLine/\(a ==sysModules)=false/\
  ∃xs,KT H kvs xs/\h.DictOfH (tupleKind (ji P w)) a xs:=by
 obtain⟨z,y,xs,r,o,es,ep,h1,h2,h3,h4,h5⟩:=(show i7 P w H h a (.dT kvs) from NO ok e)
 refine⟨z,y,xs,r,o,es,ep,h1,h2,h3,h4,λx hx=>?_,h5⟩
 have all:∀{l:List (List Key×V)} {m:List (List Key×Addr×Value)},KT H l m->∀x∈m,(tupleKind (ji P w)).is h x.1 x.2.1:=by
  intro l m q
  induction q with
  | nil=>intro x hx;exact nomatch hx
  | @cons p q ps qs hq t ih=>
   intro x hx
   rcases XH.mp hx with e|hx
   ·subst e
    exact uy ok (by rw[<-hq.1];exact hq.2.1)
   ·exact ih x hx
 exact all r x hx
theorem JJ{kvs:List (List Key×V)}(ok:rD P w H h)(e:H a=some (.dT kvs)):kvs.length<=sizeLine/\(a ==sysModules)=false/\
 ∃xs,KT H kvs xs/\h.DictOfH (tupleKind (ji P w)) a xs:=xQ ok (.inl e)
end
def ja(H:Hp)(a:Addr)(y:V)(r:Option V):Prop:=
 (∃kvs k,Rd H a (.dK kvs)/\y=kV k/\r=iT kvs k)\/∃kvs k b,Rd H a (.dT kvs)/\y=.ref b/\H b=some (.tup (k.map kV))/\r=iT kvs k
def nN(H:Hp)(a:Addr)(y v:V)(H':Hp):Prop:=
 (∃kvs k,H a=some (.dK kvs)/\y=kV k/\kvs.length<sizeLine/\H'=upd H a (.dK (putK kvs k v)))\/
 ∃kvs k b,H a=some (.dT kvs)/\y=.ref b/\H b=some (.tup (k.map kV))/\kvs.length<sizeLine/\H'=upd H a (.dT (putK kvs k v))
theorem ja.k{H:Hp}{a:Addr}{kvs:List (Key×V)}{k:Key}(e:H a=some (.dK kvs)):ja H a (kV k) (iT kvs k):=.inl ⟨kvs,k,.inl e,rfl,rfl⟩
theorem ja.t{H:Hp}{a b:Addr}{kvs:List (List Key×V)}{k:List Key}(e:H a=some (.dT kvs))(eb:H b=some (.tup (k.map kV))):ja H a (.ref b) (iT kvs k):=.inr ⟨kvs,k,b,.inl e,rfl,eb,rfl⟩
theorem nN.k{H:Hp}{a:Addr}{kvs:List (Key×V)}{k:Key}{v:V}(e:H a=some (.dK kvs))(hl:kvs.length<sizeLine):nN H a (kV k) v (upd H a (.dK (putK kvs k v))):=.inl ⟨kvs,k,e,rfl,hl,rfl⟩
theorem nN.t{H:Hp}{a b:Addr}{kvs:List (List Key×V)}{k:List Key}{v:V}(e:H a=some (.dT kvs))(eb:H b=some (.tup (k.map kV)))(hl:kvs.length<sizeLine) :
 nN H a (.ref b) v (upd H a (.dT (putK kvs k v))):=.inr ⟨kvs,k,b,e,rfl,eb,hl,rfl⟩
section
variable{X:Cx}{c_:Qqz}{Z:St}{H:Hp}{s:Shared}{a:Addr}{y v:V}{u r:Value}{o:Option V}{A:Around}{E:Qqq}
theorem Inv.big(I:Inv X c_ Z H s):sysModules<s.heap.objs.size:=by
 have h:mainGlobals<s.heap.objs.size:=(I.mod.glob.keeps I.bk).lt
 exact Nat.lt_trans (by decide) h
theorem Ia{Q:Qqq}(hu:A.units+1<cLine)(I:Inv X c_ Z H s)(g:ja H a y (some v))(ry:RelV y u)(h:∀w' s',Inv X c_ Z H s'->RelV v w'->Q w' s') :
  wpAny (model X.prog X.w) A (getItem (.ref a) u) Q E s:=by
 rcases g with⟨kvs,k,e,ey,l⟩|⟨kvs,k,b,e,ey,eb,l⟩
 ·subst ey
  obtain⟨z,hd,vs,rel,dd⟩:=xP I.iM e
  obtain⟨w',hw,Bq⟩:=pM.some_of (v:=v) (o:=valueAt vs k) (by rw[l];exact rel.val k)
  exact wpAny_getItem_of (zt ry) dd.mapOf hw (h w' _ (I.tok _) Bq)
 ·subst ey
  cases (show u=Value.ref b from ry)
  obtain⟨z,hd,xs,rel,dd⟩:=xQ I.iM e
  obtain⟨w',hw,Bq⟩:=pM.some_of (v:=v) (o:=(atKey xs k).map (·.2)) (by rw[l];exact rel.val k)
  obtain⟨p,hp,A2⟩:=Option.map_eq_some_iff.mp hw
  refine wpAny_getItem_heap (abA hu) (uy I.iM eb) dd hp ?_
  rw[A2]
  exact h w' _ (I.tok _) Bq
theorem WJ{Q:Qqq}(hu:A.units+1<cLine)(I:Inv X c_ Z H s)(g:ja H a y o)(ry:RelV y u)(h:∀s',Inv X c_ Z H s'->Q (.bool o.isSome) s') :
  wpAny (model X.prog X.w) A (compareOp .In u (.ref a)) Q E s:=by
 rcases g with⟨kvs,k,e,ey,l⟩|⟨kvs,k,b,e,ey,eb,l⟩
 ·subst ey
  obtain⟨z,hd,vs,rel,dd⟩:=xP I.iM e
  refine wpAny_in_of (zt ry) hd dd.mapOf ?_
  rw[<-(rel.val k).pQ,<-l]
  exact h _ (I.tok _)
 ·subst ey
  cases (show u=Value.ref b from ry)
  obtain⟨z,hd,xs,rel,dd⟩:=xQ I.iM e
  refine wpAny_in_heap (abA hu) (uy I.iM eb) hd dd ?_
  have q:=(rel.val k).pQ
  rw[Option.isSome_map] at q
  rw[<-q,<-l]
  exact h _ (I.tok _)
theorem Md{Q:Qqq}(hu:A.units+1<cLine)(I:Inv X c_ Z H s)(g:ja H a y o)(ry:RelV y u)(h:∀s',Inv X c_ Z H s'->Q (.bool (!o.isSome)) s') :
  wpAny (model X.prog X.w) A (compareOp .NotIn u (.ref a)) Q E s:=by
 rcases g with⟨kvs,k,e,ey,l⟩|⟨kvs,k,b,e,ey,eb,l⟩
 ·subst ey
  obtain⟨z,hd,vs,rel,dd⟩:=xP I.iM e
  refine wpAny_notIn_of (zt ry) hd dd.mapOf ?_
  rw[<-(rel.val k).pQ,<-l]
  exact h _ (I.tok _)
 ·subst ey
  cases (show u=Value.ref b from ry)
  obtain⟨z,hd,xs,rel,dd⟩:=xQ I.iM e
  refine wpAny_notIn_heap (abA hu) (uy I.iM eb) hd dd ?_
  have q:=(rel.val k).pQ
  rw[Option.isSome_map] at q
  rw[<-q,<-l]
  exact h _ (I.tok _)
theorem tE{h':Heap}{t':Nat}{ob:HO}(I:Inv X c_ Z H s)(mu:NH (H a))(hs:Heap.SameBut a s.heap h')(he:∃q,h'.get? a=some q)(new:i7 X.prog X.w (upd H a ob) h' a ob) :
  Inv X c_ Z (upd H a ob) {s with heap:=h',toks:=t'}:=
 I.write (x:=a) (e:=a) mu (.inl rfl) (λb q hb z=>(hs.2 b hb).trans z) he new
theorem FO{P:Program}{w:World}{H':Hp}{h':Heap}{kvs:List (Key×V)}{vs:List (Key×Value)}(z:kvs.length<=sizeLine)(hd:(a ==sysModules)=false)(rel:KV kvs vs)(dd:h'.DictOf (ji P w) a vs) :
 i7 P w H' h' a (.dK kvs):=⟨z,hd,vs,rel,dd⟩
theorem Ib{H':Hp}{Q:Unit->Shared->Prop}(hu:A.units+1<cLine)(I:Inv X c_ Z H s)(g:nN H a y v H')(ry:RelV y u)(rv:RelV v r)(h:∀s',Inv X c_ Z H' s'->Q () s') :
  wpAny (model X.prog X.w) A (setItem (.ref a) u r) Q E s:=by
 rcases g with⟨kvs,k,e,ey,l,eH⟩|⟨kvs,k,b,e,ey,eb,l,eH⟩
 ·subst ey eH
  obtain⟨z,hd,vs,rel,dd⟩:=JI I.iM e
  have hz:vs.length<=sizeLine:=by rw[<-rel.length];exact z
  have hl:(putK kvs k v).length<=sizeLine:=by have:=jr kvs k v;omega
  refine wpAny_setItem_pairs (hsz:=hz) (zt ry) dd λh' LQ hs=>h _ ?_
  have he:∃q,h'.get? a=some q:=let ⟨q,_,_,hq,_⟩:=LQ;⟨q,hq⟩
  exact tE I (by rw[e];exact True.intro) hs he (FO hl hd (rel.put k rv) LQ)
 ·subst ey eH
  cases (show u=Value.ref b from ry)
  obtain⟨z,hd,xs,rel,dd⟩:=JJ I.iM e
  have hz:xs.length<=sizeLine:=by rw[<-aak rel];exact z
  have hl:(putK kvs k v).length<=sizeLine:=by have:=jr kvs k v;omega
  refine wpAny_setItem_heap (hsz:=hz) (abA hu) (uy I.iM eb) dd λh' LQ hs=>h _ ?_
  obtain⟨q,es,ep,hq,h2,h3,h4,_,h5⟩:=LQ
  refine tE I (by rw[e];exact True.intro) hs ⟨q,hq⟩ ⟨hl,hd,_,(rel.put k eb rv).keeps λc ys ec=>?_,q,es,ep,hq,h2,h3,h4,h5⟩
  rw[e_ (i9 ec e (λz=>nomatch z))]
  exact ec
end
section
variable{X:Cx}{c_:Qqz}{Z:St}{H:Hp}{s:Shared}{a:Addr}{kvs:List (Key×V)}{k:Key}{u:Value}{A:Around}{E:Qqq}
theorem R8{v:V}{more:List Value}{Q:Qqq}(I:Inv X c_ Z H s)(e:H a=some (.dK kvs))(ry:RelV (kV k) u)(l:iT kvs k=some v)(hm:more=[]\/∃x,more=[x])
  (h:∀w' s',Inv X c_ Z (upd H a (.dK (jZ kvs k))) s'->RelV v w'->Q w' s'):wpAny (model X.prog X.w) A (call (.builtin "dict.pop") (.ref a::u::more)) Q E s:=by
 obtain⟨z,hd,vs,rel,dd⟩:=JI I.iM e
 obtain⟨w',hw,Bq⟩:=pM.some_of (v:=v) (o:=valueAt vs k) (by rw[<-l];exact rel.val k)
 have hp:(keyPart u).isSome=true:=by
  cases k with
  | inl i=>obtain⟨t,q⟩:=(show ∃t,u=Value.int i t from ry);subst q;rfl
  | inr x=>obtain⟨t,q⟩:=(show ∃t,u=Value.str x t from ry);subst q;rfl
 have ha:argsOk "dict.pop" ⟨.ref a::u::more,[]⟩:=by
  rcases hm with q|⟨x,q⟩
  ·subst q;exact PySem.F.args_dict_pop_2 _ _
  ·subst q;exact PySem.F.args_dict_pop_3 _ _ _
 refine call_meetsIn ab8 dd.typeIs PySem.F.entry_dict_pop ha (meets_dict_pop_there (ji X.prog X.w) a (zt ry) more hm hp)
  ⟨vs,w',dd,by rw[<-rel.length];exact z,hw,λh' LQ hs=>h w' _ ?_ Bq⟩
 have he:∃q,h'.get? a=some q:=let ⟨q,_,_,hq,_⟩:=LQ;⟨q,hq⟩
 exact tE I (by rw[e];exact True.intro) hs he (FO (aai (Ek kvs k) z) hd (rel.drop k) LQ)
end
def OS(i:Expr):Prop:=∀ov iv,subscripted i false ov iv=operate [ov,iv] (getItem ov iv)
theorem Me{prog:Program}{w:World}{A:Around}{E:Qqq}{s:Shared}{env:Env}{value slice:Expr}{pos:Pos}{T id:String}{Q:Qqq}
  (hl:typeLookup (.type T) "__getitem__"=pure (some (.builtin id))) (hs:OS slice)
  (h:wpAny (model prog w) A (eval value env) (λo s1=>wpAny (model prog w) A (eval slice env) (λi s2=>s2.TypeIs o T/\wpAny (model prog w) A (getItem o i) Q E s2) E s1) E s) :
  wpAny (model prog w) A (eval (.Subscript value slice pos) env) Q E s:=by
 refine Subscript_ (abo h (λo s1 h1=>abo h1 (λi s2 h2=>?_) λ_ _ x=>x) λ_ _ x=>x)
 obtain⟨hT,h2⟩:=h2
 unfold subscriptTail
 refine TN ?_
 rw[getitemInPython_of_ne hT.not_modules]
 refine TN (ab9 hT hl ?_)
 have fin:wpAny (model prog w) A (subscripted slice false o i) (λr s3=>wpAny (model prog w) A (letTemporaryGo value o r >>= λ_=>pure r) Q E s3) E s2:=by
  rw[hs o i]
  exact wpAny_operating (abo h2 (λr s3 h3=>TN (wpAny_letTemporaryGo (aaf h3))) λ_ _ x=>x)
 first
  | exact aaf (TN fin)
  | exact TN (aaf (TN fin))
  | exact TN fin
theorem El{X:Cx}{c_:Qqz}{Z:St}{H:Hp}{s:Shared}{a:Addr}{y:V}{o:Option V}(I:Inv X c_ Z H s)(g:ja H a y o):s.TypeIs (.ref a) "dict":=by
 rcases g with⟨kvs,k,e,_,_⟩|⟨kvs,k,b,e,_,_,_⟩
 ·obtain⟨_,_,vs,_,dd⟩:=xP I.iM e
  exact dd.typeIs
 ·obtain⟨_,_,xs,_,dd⟩:=xQ I.iM e
  exact dd.typeIs
def NP(td ty:TE):TE:=λZ H Q=>td Z H λx H1=>ty Z H1 λy H2=>∃a v,x=.ref a/\ja H2 a y (some v)/\Q v H2
def WK(ty td:TE):TE:=λZ H Q=>ty Z H λy H1=>td Z H1 λx H2=>∃a o,x=.ref a/\ja H2 a y o/\Q (.bl o.isSome) H2
def Mf(ty td:TE):TE:=λZ H Q=>ty Z H λy H1=>td Z H1 λx H2=>∃a o,x=.ref a/\ja H2 a y o/\Q (.bl (!o.isSome)) H2
def R9(td ty tv:TE):TS:=λD Z H=>tv Z H λv H1=>td Z H1 λx H2=>ty Z H2 λy H3=>∃a H4,x=.ref a/\nN H3 a y v H4/\D.nx Z H4
section
variable{X:Cx}{o i e value:Expr}{pos pos' Qp:Pos}{td ty tv:TE}
theorem Mh(hu:X.A.units+1<cLine)(ho:PE X o td)(hi:PE X i ty)(hs:OS i):PE X (.Subscript o i pos) (NP td ty):=by
 intro c_ s Z H Q I h
 refine Me PySem.F.slot_dict_getitem.lookup hs (i8 (ho c_ s Z H _ I h) λu s1 iJ=>?_)
 obtain⟨x,H1,I1,rx,q1⟩:=iJ
 refine i8 (hi c_ s1 Z H1 _ I1 q1) λiv s2 Jf=>?_
 obtain⟨y,H2,I2,ry,a,v,ex,g,q2⟩:=Jf
 subst ex
 obtain rfl:u=Value.ref a:=rx
 exact⟨El I2 g,Ia hu I2 g ry λw' s3 I3 Bq=>⟨v,H2,I3,Bq,q2⟩⟩
theorem ph(hu:X.A.units+1<cLine)(hi:PE X i ty)(ho:PE X o td):PC X .In i o (WK ty td):=by
 intro c_ s Z H Q I h
 refine i8 (hi c_ s Z H _ I h) λiv s1 iJ=>?_
 obtain⟨y,H1,I1,ry,q1⟩:=iJ
 refine i8 (ho c_ s1 Z H1 _ I1 q1) λu s2 Jf=>?_
 obtain⟨x,H2,I2,rx,a,ov,ex,g,q2⟩:=Jf
 subst ex
 obtain rfl:u=Value.ref a:=rx
 exact WJ hu I2 g ry λs3 I3=>⟨.bl ov.isSome,H2,I3,rfl,q2⟩
theorem lu(hu:X.A.units+1<cLine)(hi:PE X i ty)(ho:PE X o td):PC X .NotIn i o (Mf ty td):=by
 intro c_ s Z H Q I h
 refine i8 (hi c_ s Z H _ I h) λiv s1 iJ=>?_
 obtain⟨y,H1,I1,ry,q1⟩:=iJ
 refine i8 (ho c_ s1 Z H1 _ I1 q1) λu s2 Jf=>?_
 obtain⟨x,H2,I2,rx,a,ov,ex,g,q2⟩:=Jf
 subst ex
 obtain rfl:u=Value.ref a:=rx
 exact Md hu I2 g ry λs3 I3=>⟨.bl (!ov.isSome),H2,I3,rfl,q2⟩
theorem jB(hu:X.A.units+1<cLine)(ho:PE X o td)(hi:PE X i ty)(hv:PE X value tv)(hs:swapsWith value (some (.Subscript o i pos')) pos.line X.env=pure false) :
  PS X (.Assign [.Subscript o i pos'] value pos) (R9 td ty tv):=by
 intro c_ s Z H D I h
 refine wpAny_Assign_Subscript (i8 (hv c_ s Z H _ I h) λr s1 iJ=>?_) hs
 obtain⟨v,H1,I1,rv,q1⟩:=iJ
 refine i8 (ho c_ s1 Z H1 _ I1 q1) λu s2 Jf=>?_
 obtain⟨x,H2,I2,rx,q2⟩:=Jf
 refine i8 (hi c_ s2 Z H2 _ I2 q2) λiv s3 zz2=>?_
 obtain⟨y,H3,I3,ry,a,H4,ex,g,q3⟩:=zz2
 subst ex
 obtain rfl:u=Value.ref a:=rx
 exact Ib hu I3 g ry rv λs4 I4=>⟨Z,H4,I4,q3⟩
end
theorem JK{P:Program}{w:World}{H:Hp}(h:Heap)(hb:sysModules<h.objs.size):i7 P w H (h.push {cls:=.type "dict",data:=.dict #[]}) h.objs.size (.dK []):=
 ⟨aaI _,beq_eq_false_iff_ne.mpr (abD (aaJ hb)),[],.nil,Heap.DictOf.new h⟩
theorem JL{P:Program}{w:World}{H:Hp}(h:Heap)(hb:sysModules<h.objs.size):i7 P w H (h.push {cls:=.type "dict",data:=.dict #[]}) h.objs.size (.dT []):=
 ⟨aaI _,beq_eq_false_iff_ne.mpr (abD (aaJ hb)),[],.nil,_,#[],0,aax _ rfl,⟨rfl,rfl,rfl⟩,rfl,rfl,aa9⟩
def OT:TE:=λ_ H Q=>∀p,H p=none->Q (.ref p) (upd H p (.dK []))
def OU:TE:=λ_ H Q=>∀p,H p=none->Q (.ref p) (upd H p (.dT []))
section
variable{X:Cx}{pos:Pos}
theorem nU:PE X (.Dict [] [] pos) OT:=λc_ s Z H Q I h=>
 wpAny_Dict_empty ⟨.ref s.heap.objs.size,_,I.laid (a:=s.heap.objs.size) (o:=.dK []) (t':=s.toks) (λ_ _ q=>aaj _ q) (WR _) (JK s.heap I.big),rfl,h _ (I.iM.fresh (WR _))⟩
theorem mB:PE X (.Dict [] [] pos) OU:=λc_ s Z H Q I h=>
 wpAny_Dict_empty ⟨.ref s.heap.objs.size,_,I.laid (a:=s.heap.objs.size) (o:=.dT []) (t':=s.toks) (λ_ _ q=>aaj _ q) (WR _) (JL s.heap I.big),rfl,h _ (I.iM.fresh (WR _))⟩
end
structure M1(X:Cx)(o:Expr)(m:Str)(apos:Pos)(e:Expr)(kZ:Pos):Prop where
 base:attributeBase o m X.env (eval o X.env)=eval o X.env
 jS:((backTo kZ (starEach [e] X.env)).all (λx=>!x.1)&&(backToKw kZ (keywordEach [] X.env)).all (λx=>x.1.isSome)
  &&decide (([e]:List Expr).length+([]:List Keyword).length+(if([]:List Keyword).isEmpty then 0 else 1)<30))=true
 line:(apos.endLine ==kZ.line)=true
 trees:backTo kZ (starEach [e] X.env)=[(false,eval e X.env)]
structure M2(X:Cx)(o:Expr)(m:Str)(apos:Pos)(e f:Expr)(kZ:Pos):Prop where
 base:attributeBase o m X.env (eval o X.env)=eval o X.env
 jS:((backTo kZ (starEach [e,f] X.env)).all (λx=>!x.1)&&(backToKw kZ (keywordEach [] X.env)).all (λx=>x.1.isSome)
  &&decide (([e,f]:List Expr).length+([]:List Keyword).length+(if([]:List Keyword).isEmpty then 0 else 1)<30))=true
 line:(apos.endLine ==kZ.line)=true
 trees:backTo kZ (starEach [e,f] X.env)=[(false,eval e X.env),(false,eval f X.env)]
def Q6(H:Hp)(a:Addr):Prop:=(∃kvs,Rd H a (.dK kvs))\/∃kvs,Rd H a (.dT kvs)
theorem zu{X:Cx}{c_:Qqz}{Z:St}{H:Hp}{s:Shared}{a:Addr}(I:Inv X c_ Z H s)(d:Q6 H a) :
  s.TypeIs (.ref a) "dict"/\(∀b,Value.ref a=.ref b->∃ob,s.heap.get? b=some ob/\ob.dict=none)/\(a ==sysModules)=false:=by
 rcases d with⟨kvs,e⟩|⟨kvs,e⟩
 ·obtain⟨_,hd,vs,_,dd⟩:=xP I.iM e
  refine⟨dd.typeIs,λb q=>?_,hd⟩
  cases q
  obtain⟨ob,_,_,h1,h2,_⟩:=dd
  exact⟨ob,h1,h2.2.1⟩
 ·obtain⟨_,hd,xs,_,dd⟩:=xQ I.iM e
  refine⟨dd.typeIs,λb q=>?_,hd⟩
  cases q
  obtain⟨ob,_,_,h1,h2,_⟩:=dd
  exact⟨ob,h1,h2.2.1⟩
section
variable{X:Cx}{c_:Qqz}{Z:St}{H:Hp}{s:Shared}{a:Addr}{y d:V}{u r:Value}{o:Option V}{A:Around}{E:Qqq}
theorem OV{Q:Qqq}(hu:A.units+1<cLine)(I:Inv X c_ Z H s)(g:ja H a y o)(ry:RelV y u)(rd:RelV d r)(h:∀w' s',Inv X c_ Z H s'->RelV (o.getD d) w'->Q w' s') :
  wpAny (model X.prog X.w) A (call (.builtin "dict.get") [.ref a,u,r]) Q E s:=by
 rcases g with⟨kvs,k,e,ey,l⟩|⟨kvs,k,b,e,ey,eb,l⟩
 ·subst ey
  obtain⟨z,hd,vs,rel,dd⟩:=xP I.iM e
  refine call_meetsIn PySem.F.slot_dict_get dd.typeIs PySem.F.entry_dict_get (PySem.F.args_dict_get_3 _ _ _) (meets_dict_get_default (ji X.prog X.w) a (zt ry) hd r) ⟨_,dd.mapOf,h _ _ (I.tok _) ?_⟩
  rw[l]
  exact(rel.val k).getD rd
 ·subst ey
  cases (show u=Value.ref b from ry)
  obtain⟨z,hd,xs,rel,dd⟩:=xQ I.iM e
  refine call_meetsIn PySem.F.slot_dict_get dd.typeIs PySem.F.entry_dict_get (PySem.F.args_dict_get_3 _ _ _) (meetsH_dict_get_default (tupleKind (ji X.prog X.w)) a b hd r) ⟨abA hu,k,xs,uy I.iM eb,dd,h _ _ (I.tok _) ?_⟩
  rw[l]
  exact(rel.val k).getD rd
end
def OW(td ty tx:TE):TE:=λZ H Q=>td Z H λx H1=>∃a,x=.ref a/\Q6 H1 a/\ty Z H1 λy H2=>tx Z H2 λz H3=>∃o,ja H3 a y o/\Q (o.getD z) H3
def OX(td ty:TE):TE:=λZ H Q=>td Z H λx H1=>∃a,x=.ref a/\Q6 H1 a/\ty Z H1 λy H2=>∃kvs k v,H2 a=some (.dK kvs)/\y=kV k/\iT kvs k=some v/\Q v (upd H2 a (.dK (jZ kvs k)))
section
variable{X:Cx}{o e f:Expr}{apos kZ:Pos}{td ty tx:TE}
theorem JM(hu:X.A.units+1<cLine)(ho:PE X o td)(he:PE X e ty)(hf:PE X f tx)(m:M2 X o "get" apos e f kZ):PE X (.Call (.Attribute o "get" apos) [e,f] [] kZ) (OW td ty tx):=by
 intro c_ s Z H Q I h
 refine wpAny_Call_method m.base m.jS m.line abE PySem.F.slot_dict_get PySem.F.type_dict_get (i8 (ho c_ s Z H _ I h) λu s1 iJ=>?_)
 obtain⟨x,H1,I1,rx,a,ex,d,q1⟩:=iJ
 subst ex
 obtain rfl:u=Value.ref a:=rx
 obtain⟨t1,t2,_⟩:=zu I1 d
 refine⟨t1,t2,?_⟩
 rw[m.trees]
 refine abe rfl (abp (abb (i8 (he c_ s1 Z H1 _ I1 q1) λiv s2 ⟨y,H2,I2,ry,q2⟩=>
  abb (i8 (hf c_ s2 Z H2 _ I2 q2) λfv s3 ⟨z,H3,I3,rz,ov,g,q3⟩=>abv ?_))))
 exact OV hu I3 g ry rz λw' s4 I4 Bq=>⟨_,H3,I4,Bq,q3⟩
theorem JN(ho:PE X o td)(he:PE X e ty)(m:M1 X o "pop" apos e kZ):PE X (.Call (.Attribute o "pop" apos) [e] [] kZ) (OX td ty):=by
 intro c_ s Z H Q I h
 refine wpAny_Call_method m.base m.jS m.line abE ab8 PySem.F.type_dict_pop (i8 (ho c_ s Z H _ I h) λu s1 iJ=>?_)
 obtain⟨x,H1,I1,rx,a,ex,d,q1⟩:=iJ
 subst ex
 obtain rfl:u=Value.ref a:=rx
 obtain⟨t1,t2,_⟩:=zu I1 d
 refine⟨t1,t2,?_⟩
 rw[m.trees]
 refine abe rfl (abp (abb (i8 (he c_ s1 Z H1 _ I1 q1) λiv s2 iJ=>?_)))
 obtain⟨y,H2,I2,ry,kvs,k,v,ea,ey,l,q2⟩:=iJ
 refine abv ?_
 subst ey
 exact R8 I2 ea ry l (.inl rfl) λw' s3 I3 Bq=>⟨v,_,I3,Bq,q2⟩
end
section
variable{X:Cx}{c_:Qqz}{Z:St}{H:Hp}{s:Shared}{a:Addr}{kvs:List (Key×V)}{A:Around}{E:Qqq}
end
section
variable{X:Cx}{c_:Qqz}{Z:St}{H:Hp}{s:Shared}{a:Addr}{y:V}{u:Value}{A:Around}{E:Qqq}
end
end L2
namespace ZS
open PySem PySem.W PySem.Calls PyProof.Rows
theorem yM{P:Params}{h:Heap}:∀(ns:List Int)(vs:List Value),WellAll P h vs (ns.map WData.int)->IntsAre vs ns:=by
 intro ns
 induction ns with
 | nil=>
  intro vs w
  rw[List.map_nil] at w
  cases w
  exact .nil
 | cons n ns ih=>
  intro vs w
  rw[aat] at w
  cases w with
  | cons a b=>
   cases a
   exact .cons _ _ (ih _ b)
theorem Ic{l:OpenLaw}{n:Nat}(hn:l.most=some n){P:Params}{h:Heap}{args:List WData}{vals:List Value}
  (Jh:l.row.toRowW.claim.pre args=true) (N6:WellAll P h vals args) :
  ∃a vs ns,vals=[Value.ref a]/\args=[WData.list (ns.map WData.int)]/\h.get? a=some {cls:=.type "list",data:=.seq vs.toArray}/\IntsAre vs ns/\ns.length<=n:=by
 have hsh:WShape.hasAll [] args [.list .int]=true:=(pre_splitW Jh).1
 have hc:l.pre.holds [] {args:=args}=true:=(pre_splitW Jh).2
 obtain⟨d,r,rfl,h1,h2⟩:=hasAllW_cons hsh
 obtain rfl:=hasAllW_nil h2
 obtain⟨xs,rfl,h3⟩:=hasW_list h1
 obtain⟨ns,rfl⟩:=items_int h3
 have hlen:ns.length<=n:=by
  unfold OpenLaw.pre at hc
  have h4:(WTm.not (.lt (.lit (.int (n:Int))) (.len (.arg 0)))).holds [] {args:=[.list (ns.map .int)]}=true:=by
   have h4:=(holds_andW hc).1
   rw[hn] at h4
   exact h4
  have h5:=condW_of h4 (w_not (w_lt w_lit (w_len_list (w_arg rfl))))
  rw[Ob] at h5
  refine Nat.le_of_not_lt λq=>?_
  have q':(n:Int)<((ns.length:Nat):Int):=by omega
  first
   | (rw[WV q'] at h5;exact absurd h5 (by decide))
   | (simp at h5;omega)
 cases N6 with
 | cons w1 w2=>
  cases w2
  cases w1 with
  | list ho wu=>exact⟨_,_,ns,rfl,rfl,ho,yM ns _ wu,hlen⟩
theorem Ie(l:OpenLaw)(args:List WData):l.row.toRowW.claim.post args (.bool true) args=true:=
 postW_of (r:=l.row.toRowW) (X:=(true ==true))
  (show WShape.has [] (.bool true) .bool=true by first|rfl|decide|simp[WShape.has,WShape.arms,WShape.armsAll])
  (show(WTm.eq .res (.lit (.bool true))).value [] {args:=args,res:=some (.bool true),after:=args}=some (.bool (true ==true)) from w_eq_bool (w_res rfl) w_lit) rfl
theorem Em{l:OpenLaw}{n:Nat}{q:Program}{loose:List Str}{XP:(Qqx)->Heap->Prop}{YP:World->Heap->Prop}{d:DefRec}
  (hn:l.most=some n) (Th:d.params.defaults=[])
  (call:∀(w:World)(s₀ s1:Shared)(mg mb:Qqx)(fa:Addr)(o:Obj)(pm cd doc:Value)(a:Addr)(vs:List Value)(ns:List Int),
   Ground q loose [] XP w s₀ mg mb s1.heap->YP w s1.heap->
   s1.heap.get? fa=some o->o.data=.func (docDef d.name d.params d.body d.scope pm cd doc)->s1.heap.CodeRec cd d.name->mg d.name=some (.ref fa)->
   s1.heap.get? a=some {cls:=.type "list",data:=.seq vs.toArray}->IntsAre vs ns->ns.length<=n->s1.gens=#[]->
   codeAny (model l.prog w) callerA (.call (.ref fa) ⟨[.ref a],[]⟩) (λr s'=>r=.ok (.ret (.bool true))/\OldK s1.heap s'.heap/\s'.os=s1.os/\AllBare s'.gens) s1) :
  WalkO q loose XP YP l.row.toRowW d [] (λf vs=>PySem.call f vs):=by
 intro w s₀ s1 mg mb G Y fa o pm cd doc dV kV ho hd Cb hD Ti hg args vals as Jh hlay hrd N6 N7
 obtain rfl:dV=.none:=Dflts.none hD Th
 obtain rfl:kV=.none:=Dflts.noKw hD
 obtain⟨a,vs,ns,rfl,rfl,Qr,hints,hlen⟩:=Ic hn Jh N6
 refine enter_call (codeAny_mono (call w s₀ s1 mg mb fa o pm cd doc a vs ns G Y ho (fd_plain hd) Cb Ti Qr hints hlen hg) λr s' hq=>?_)
 obtain⟨rfl,h2,h3,h4⟩:=hq
 exact⟨.inl ⟨.bool true,.bool true,[],rfl,λ_=>rfl,.bool true,Ie l _,λ_=>⟨List.Pairwise.nil,λ_ hm=>(nomatch hm)⟩⟩,h2,h3,h4⟩
section
variable{prog:Program}{w:World}{A:Around}{E:Qqq}{s:Shared}{K:Frag}
def ledger(h:Heap)(L d:Addr):Qqz:=(List.range h.objs.size).filterMap λa=>if a=L\/a=d then none else(h.get? a).map λo=>(a,o)
end
end ZS
namespace L2
open PySem PySem.Spec PyProof.Rows
theorem BG:∀{vs:List Value} {ns:List Int},IntsAre vs ns->Vals (ns.map V.int) vs
 | _,_,.nil=>.nil
 | _,_,.cons n t h=>.cons ⟨t,rfl⟩ (BG h)
def OY(H:Hp):Prop:=∀b,H b=none\/∃o xs,H b=some (.nB o (.lst xs))
theorem JO{P:Program}{w:World}{K:Qqy}{mg mb:Qqx}{CX:G0}{k:Nat}{fa a:Addr}{fd:FuncData}{x:Str}{sp:Sp}{s1:Shared}{vs:List Value}{ns:List Int}
  (KX:K.In s1.heap) (Z_:s1.heap.Ns mainGlobals mg) (hb:s1.heap.Ns builtinsNs mb) (hbb:∀x:Str,x≠"__name__"->mb x=bootBuiltins x) (Xl:s1.heap.NoLimit) (hg:s1.gens=#[])
  (ha:s1.heap.get? a=some {cls:=.type "list",data:=.seq vs.toArray}) (hi:IntsAre vs ns) (hl:ns.length<=sizeLine) (hr:kI k callerA)
  (F:∀base:Heap,K.In base->base.Ns mainGlobals mg->il P w K mg base CX k fa fd [x] sp) (Tj:∀(s:Shared)(u:Value),BindsTo s fd ⟨[u],[]⟩ [(x,u)])
  (LP:∀H:Hp,OY H->gO K H a (ns.map V.int)->sp [.ref a] H (λv _=>v=.bl true) λ_ _ _=>False)
  (Xm:∀H e s',CX [] H s1 (λ_ _ _=>False) e s'->False) :
  codeAny (model P w) callerA (.call (.ref fa) ⟨[.ref a],[]⟩) (λr s'=>r=.ok (.ret (.bool true))/\OldK s1.heap s'.heap/\s'.os=s1.os/\AllBare s'.gens) s1:=by
 have rv:=BG hi
 have Xn:=hi.length
 have core:∀H:Hp,OY H->gO K H a (ns.map V.int)->rD P w H s1.heap->(∀b,H b≠none->b=a)->(H a≠none->K.lookup a=none)->
   codeAny (model P w) callerA (.call (.ref fa) ⟨[.ref a],[]⟩) (λr s'=>r=.ok (.ret (.bool true))/\OldK s1.heap s'.heap/\s'.os=s1.os/\AllBare s'.gens) s1:=by
  intro H hO hS iM hA hK
  have HI:∀{b:Addr} {o:Obj},s1.heap.get? b=some o->H b=none->(Cf s1.heap H).get? b=some o:=λe n=>Jr e n
  have Te:∀{b:Addr} {o:Obj} {es:Array DictEntry} {ep:Nat},s1.heap.get? b=some o->o.data=.dict es ep->H b=none:=λ{b o es ep} e d=>by
   cases q:H b with
   | none=>rfl
   | some u=>
    have e':b=a:=hA b (by rw[q];simp)
    subst e'
    rw[ha] at e;cases e
    have d':Data.seq vs.toArray _=Data.dict es ep:=d
    cases d'
  have Vm:∀{b:Addr} {m:Qqx},s1.heap.Ns b m->(Cf s1.heap H).Ns b m:=λ{b m} ⟨o,es,ep,e,d,r⟩=>⟨o,es,ep,HI e (Te e d),d,r⟩
  have hKb:K.In (Cf s1.heap H):=λb o e=>HI (KX b o e) (by
   cases q:H b with
   | none=>rfl
   | some u=>
    have e':b=a:=hA b (by rw[q];simp)
    subst e'
    rw[hK (by rw[q];simp)] at e;cases e)
  have hM:Mod K mg (Cf s1.heap H):=⟨hKb,Vm Z_,⟨mb,Vm hb,hbb⟩,let ⟨mc,h1,h2⟩:=Xl;⟨mc,Vm h1,h2⟩⟩
  have e0:FG P w K mg (Cf s1.heap H) callerA [] s1 H:=⟨rfl,hM,λb o e=>LZ e,Nat.le_of_eq (HQ _ _),trivial,λb hb=>absurd (show b∈([]:List Addr) from hb) (by simp),iM,.of_eq hg⟩
  refine codeAny_mono ((F _ hKb (Vm Z_)).run callerA [] s1 H ⟨[.ref a],[]⟩ [.ref a] [.ref a] _ _ hr e0 (Tj s1 (.ref a)) (.cons rfl .nil) (LP H hO hS)) λr s' h=>?_
  cases r with
  | error e=>exact(Xm H e s' h).elim
  | ok fl=>
   cases fl with
   | next=>exact False.elim h
   | brk=>exact False.elim h
   | cont=>exact False.elim h
   | ret u=>
    obtain⟨v,H',os,bare,un,Xo,r',q⟩:=h
    have q':v=.bl true:=q
    subst q'
    obtain rfl:u=Value.bool true:=r'
    refine⟨rfl,OldK.of_keep λb o e=>?_,os,bare⟩
    cases q:H b with
    | none=>exact un.keep b o e q (by intro z;exact absurd (show b∈([]:List Addr) from z) (by simp)) (by simp)
    | some u=>
     rcases hO b with z|⟨ob,xs,z⟩
     ·rw[q] at z;cases z
     ·have z2:=un.uZ b ob _ z
      obtain⟨e1,_⟩:=iM b _ z
      obtain⟨e2,_⟩:=Xo b _ z2
      rw[e] at e1;cases e1
      exact e2
 cases hk:K.lookup a with
 | some o=>
  have e:=KX a o hk
  rw[ha] at e
  cases e
  refine core (λ_=>none) (λ_=>.inl rfl) (.inr ⟨_,vs.toArray,_,hk,rfl,rfl,rfl,by rw[aag,Xn];exact hl,by simpa using rv⟩) (λb u z=>by have z':(none:Option HO)=some u:=z;cases z') (λb z=>absurd rfl z) λz=>absurd rfl z
 | none=>
  refine core (λb=>if b=a then some (.nB {cls:=.type "list",data:=.seq vs.toArray} (.lst (ns.map V.int))) else none) (λb=>?_) (.inl (.inr ⟨{cls:=.type "list",data:=.seq vs.toArray},aan rfl⟩)) (λb u z=>?_) (λb z=>?_) λ_=>hk
  ·by_cases hb:b=a
   ·exact .inr ⟨_,_,aan hb⟩
   ·exact .inl (aac hb)
  ·by_cases hb:b=a
   ·have z':=(aan hb).symm.trans z
    cases z'
    subst hb
    exact⟨ha,by rw[Ob];exact hl,vs,_,rv,ha⟩
   ·have z':=(aac hb).symm.trans z
    cases z'
  ·by_cases hb:b=a
   ·exact hb
   ·exact absurd (aac hb) z
theorem Mi{l:W.OpenLaw}{n k:Nat}{q:Program}{loose:List Str}{XP:(Qqx)->Heap->Prop}{YP:World->Heap->Prop}{d:DefRec}{K:Params->Qqy}{CX:World->G0}{sp:World->Sp}{x:Str}
  (hn:l.most=some n) (Qo:n<=sizeLine) (Th:d.params.defaults=[]) (hr:kI k callerA)
  (hY:∀(w:World)(h:Heap),YP w h->(K w.params).In h)
  (F:∀(w:World)(mg:Qqx)(fa:Addr)(h:Heap),(K w.params).In h->h.Ns mainGlobals mg->mg d.name=some (.ref fa)->
   ∃fd:FuncData,(∀(s:Shared)(u:Value),BindsTo s fd ⟨[u],[]⟩ [(x,u)])/\
    ∀base:Heap,(K w.params).In base->base.Ns mainGlobals mg->il l.prog w (K w.params) mg base (CX w) k fa fd [x] (sp w))
  (LP:∀(w:World)(H:Hp)(a:Addr)(ns:List Int),ns.length<=n->OY H->gO (K w.params) H a (ns.map V.int)->sp w [.ref a] H (λv _=>v=.bl true) λ_ _ _=>False)
  (Xm:∀(w:World)(H:Hp)(s:Shared)(e:Value)(s':Shared),CX w [] H s (λ_ _ _=>False) e s'->False) :
  W.WalkO q loose XP YP l.row.toRowW d [] (λf vs=>PySem.call f vs):=by
 refine ZS.Em hn Th λw s₀ s1 mg mb fa o pm cd doc a vs ns G Y ho hd Cb Ti Qr hints hlen hg=>?_
 have KX:=hY w _ Y
 obtain⟨fd,hb,hF⟩:=F w mg fa _ KX G.T.g Ti
 exact JO KX G.T.g G.T.b G.T.builtins G.T.nolimit hg Qr hints (aai hlen Qo) hr hF hb (λH hO hS=>LP w H a ns hlen hO hS) λH e s'=>Xm w H s1 e s'
def inClass(s:Stmt)(j:Nat):Stmt:=match s with
 | .ClassDef _ _ _ body _ _ _ _ _ _ _=>body.getD j (.Pass ⟨0,0,0,0⟩)
 | _=>.Pass ⟨0,0,0,0⟩
def oI(s:Stmt):Arguments:=match s with
 | .FunctionDef _ a _ _ _ _ _ _ _ _=>a
 | _=>{posonlyargs:=[],args:=[],vararg:=none,kwonlyargs:=[],kw_defaults:=[],kwarg:=none,defaults:=[]}
def lh(s:Stmt):List Stmt:=match s with
 | .FunctionDef _ _ b _ _ _ _ _ _ _=>b
 | _=>[]
def gr(s:Stmt):Scope:=match s with
 | .FunctionDef _ _ _ _ _ _ sc _ _ _=>sc
 | _=>{kind:=.function,names:=[],isGenerator:=false,isCoroutine:=false}
abbrev mD:G0:=λ_ _ _ _ _ _=>False
abbrev E0:XK:=λ_ _ _=>False
theorem pR{X:Cx}:Passes mD X E0:=λ_ _ _ _ _ _ _ h=>h.elim
structure xR(K:Qqy)(x qual:Str)(st:Stmt)(f:Addr)(fd:FuncData):Prop where
 ex:∃(oc:Value)(od:Option Addr)(kV doc pm:Value)(an:Option Addr)(jt ct:Value)(Jn:Array (Option Value)),
  fd=W.fnOf x qual (oI st) (lh st) (gr st) .none kV doc pm an jt ct/\K.lookup f=some ⟨oc,od,.func fd,Jn⟩/\W.codeIn K jt qual=true
 kp:W.keepIn K (.ref f)=true
section
variable{P:Program}{w:World}{K:Qqy}{mg:Qqx}{base:Heap}
theorem xR.ok{x qual:Str}{st:Stmt}{f:Addr}{fd:FuncData}{N ps:List Str}{k:Nat}{sp:Sp}(F:xR K x qual st f fd)(S:gH N ps (gr st))(len:∀vs H Q E,sp vs H Q E->vs.length=ps.length)
  (wq:∀(jt:Value)(A:Around)(outer:List Env)(s:Shared)(H:Hp)(vs:List V)(Q:VK)(E:XK),kI k (A.deeper (envOfC qual (gr st) s.heap.objs.size f jt))->sp vs H Q E->
   ∃t,Fw (wL mD P w K mg base N qual (gr st) f jt A outer s H E).RN (lh st) t/\t {nx:=λ_ H'=>Q .jg H',rt:=Q} (start N vs) H):il P w K mg base mD (k+1) f fd ps sp:=by
 obtain⟨oc,od,kV,doc,pm,an,jt,ct,Jn,rfl,lk,Cb⟩:=F.ex
 refine NN lk Cb S len λA outer s H vs Q E hr LP=>?_
 obtain⟨t,h,q⟩:=wq jt A outer s H vs Q E hr LP
 exact⟨t,h.RN,q⟩
theorem xR.binds{x qual:Str}{st:Stmt}{f:Addr}{fd:FuncData}{ps:List Str}(F:xR K x qual st f fd)
  (h:∀(kV doc pm:Value)(an:Option Addr)(jt ct:Value)(us:List Value),us.length=ps.length->bindArgs (W.fnOf x qual (oI st) (lh st) (gr st) .none kV doc pm an jt ct) ⟨us,[]⟩=pure (ps.zip us)):Binds K fd ps []:=by
 obtain⟨oc,od,kV,doc,pm,an,jt,ct,Jn,rfl,lk,Cb⟩:=F.ex
 exact .all (h kV doc pm an jt ct)
theorem JP{x qual:Str}{st:Stmt}{f:Addr}{oc:Value}{od an:Option Addr}{Jn:Array (Option Value)}{kV doc pm jt ct:Value}(l:K.lookup f=some ⟨oc,od,.func (W.fnOf x qual (oI st) (lh st) (gr st) .none kV doc pm an jt ct),Jn⟩)
 (c:W.codeIn K jt qual=true) (k:W.keepIn K (.ref f)=true):xR K x qual st f (W.fnOf x qual (oI st) (lh st) (gr st) .none kV doc pm an jt ct):=⟨⟨oc,od,kV,doc,pm,an,jt,ct,Jn,rfl,l,c⟩,k⟩
end
theorem iZ{A:Around}{k:Nat}(hr:kI k A):A.units+1<cLine:=abm (Nat.add_le_add_left (by decide:1<=64) _) hr.units
section
variable{X:Cx}
theorem pv(i:Nat){x:Str}{pos:Pos}(hN:X.N[i]?=some x:=by rfl)(hv:Wf X.env.scope x:=by first|exact Or.inl rfl|exact Or.inr (Or.inl rfl)|exact Or.inr (Or.inr rfl))(hd:(x ==("__debug__":Str))=false:=by decide)
 (Cb:(x ==("__classdict__":Str))=false:=by decide):PE X (.Name x pos) (RJ i):=Ox hN hv hd Cb
end
theorem jD{A B:Prop}(h:B):if false=true then A else B:=by
 rw[aac aae]
 exact h
theorem lX{A B:Prop}(h:A):if true=true then A else B:=by
 rw[aan rfl]
 exact h
theorem kF{c A B:Prop}[Decidable c](h1:c->A)(h2:¬c->B):if c then A else B:=by
 by_cases h:c
 ·rw[aan h]
  exact h1 h
 ·rw[aac h]
  exact h2 h
def gs(H H':Hp):Prop:=∀b o,H b=some o->H' b=some o
theorem gs.refl(H:Hp):gs H H:=λ_ _ h=>h
theorem gs.trans{H H1 H2:Hp}(a:gs H H1)(b:gs H1 H2):gs H H2:=λc o h=>b c o (a c o h)
theorem gs.free{H H':Hp}(e:gs H H'){l:Addr}(h:H' l=Option.none):H l=Option.none:=by
 cases q:H l with
 | none=>rfl
 | some o=>
  rw[e l o q] at h
  cases h
section
variable{Z:Type}[DecidableEq Z]
theorem wM{p:Z×V}{r:List (Z×V)}{k:Z}(e:p.1=k):jZ (p::r) k=jZ r k:=by
 unfold jZ
 rw[List.filter_cons,aac (by simp[e])]
theorem wN{p:Z×V}{r:List (Z×V)}{k:Z}(e:¬p.1=k):jZ (p::r) k=p::jZ r k:=by
 unfold jZ
 rw[List.filter_cons,aan (by simp[e])]
end
section
variable{prog:Program}{w:World}{A:Around}{R:Result->Shared->Prop}{s:Shared}
abbrev Mj:Qqq:=λ_ _=>False
theorem Cs{elt target iter:Expr}{ifs:List Expr}{scope:Scope}{pos:Pos}{it acc:Value}{env:Env}(I:Nat->Shared->Prop)
  (turn:∀n s,I n s->wpAny (model prog w) A (pyNext it) (λr s1=>match r with
   | none=>R (.ok .next) s1
   | some v=>wpAny (model prog w) A (letOwnedTupleGo target it v) (λ_ s1'=>wpAny (model prog w) A (assign target env v) (λ_ s2=>
    wpAny (model prog w) A (forIn ifs true λc r=>if r=true then do let ok <-isTrue c env (eval c env);pure (ForInStep.yield ok) else pure (ForInStep.yield r)) (λok s3=>
     if ok=true then wpAny (model prog w) A (eval elt env) (λx s4=>wpAny (model prog w) A (call (.builtin "list.append") [acc,x]) (λ_ s5=>∃m,m<n/\I m s5) Mj s4) Mj s3
     else ∃m,m<n/\I m s3) Mj s2) Mj s1') Mj s1) Mj s)
  (n:Nat) (h:I n s):codeAny (model prog w) A (.compLoop (.ListComp elt [⟨target,iter,ifs,0⟩] scope pos) 0 it acc env) R s:=by
 refine codeAny_loop rfl I (λn s hI=>?_) n h
 show wpAny _ A ((compTurn (.ListComp elt [⟨target,iter,ifs,0⟩] scope pos) 0 it acc env).onRaise (λx=>do noteFrame x env;theTreesLotGoes x)) _ _ s
 refine wpAny_noted ?_
 rw[compTurn_list]
 refine TN (wpAny_standAt (TN (abo (turn n s hI) (λr s1 h1=>?_) λ_ _ h'=>h'.elim)))
 cases r with
 | none=>exact aaf h1
 | some v=>
  refine TN (abo h1 (λ_ s1' Nl=>?_) λ_ _ h'=>h'.elim)
  refine TN (abo Nl (λ_ s2 h2=>TN (abo h2 (λok s3 h3=>?_) λ_ _ h'=>h'.elim)) λ_ _ h'=>h'.elim)
  cases ok with
  | false=>exact aaf ⟨rfl,h3⟩
  | true=>
   exact TN (TN (abo h3 (λx s4 h4=>TN (abo h4 (λ_ s5 h5=>aaf (aaf ⟨rfl,h5⟩)) λ_ _ h'=>h'.elim)) λ_ _ h'=>h'.elim))
end
noncomputable def jw(cells:List (Str×Addr)):List (Str×NameKind)->List (Str×Addr)->List (Str×Addr)
 | [],cs=>cs
 | (n,k)::r,cs=>jw cells r (if k ==.free then(n,(cells.lookup n).getD 0)::cs else cs)
theorem BH{cells:List (Str×Addr)}:∀{names:List (Str×NameKind)} {cs:List (Str×Addr)} {x:Str} {c:Addr},(∀y∈names,y.2=.free->∃c,cells.lookup y.1=some c)->
  (jw cells names cs).lookup x=some c->cs.lookup x=some c\/cells.lookup x=some c
 | [],_,_,_,_,h=>.inl h
 | (n,k)::r,cs,x,c,hf,h=>by
  rcases BH (λy hy=>hf y (aaa _ hy)) (show(jw cells r (if k ==.free then(n,(cells.lookup n).getD 0)::cs else cs)).lookup x=some c from h) with q|q
  ·by_cases hk:(k ==NameKind.free)=true
   ·rw[aan hk] at q
    by_cases hx:(x ==n)=true
    ·rw[ab1,hx] at q
     obtain⟨c',e⟩:=hf (n,k) aap (eq_of_beq hk)
     have e:cells.lookup n=some c':=e
     rw[e] at q
     have q:some c'=some c:=q
     rw[eq_of_beq hx,e,q]
     exact .inr rfl
    ·rw[ab1,abG.mpr hx] at q
     exact .inl q
   ·rw[aac hk] at q
    exact .inl q
  ·exact .inr q
theorem zv{cells:List (Str×Addr)}:∀{names:List (Str×NameKind)} {cs:List (Str×Addr)} {x:Str},(∃c,cs.lookup x=some c)->∃c,(jw cells names cs).lookup x=some c
 | [],_,_,h=>h
 | (n,k)::r,cs,x,h=>by
  refine zv (names:=r) ?_
  by_cases hk:(k ==NameKind.free)=true
  ·rw[aan hk,ab1]
   cases x ==n with
   | true=>exact⟨_,rfl⟩
   | false=>exact h
  ·rw[aac hk];exact h
theorem wO{cells:List (Str×Addr)}:∀{names:List (Str×NameKind)} {cs:List (Str×Addr)} {x:Str},(x,NameKind.free)∈names->∃c,(jw cells names cs).lookup x=some c
 | [],_,_,h=>nomatch h
 | (n,k)::r,cs,x,h=>by
  rcases XH.mp h with e|h2
  ·cases e
   refine zv (names:=r) ⟨(cells.lookup n).getD 0,?_⟩
   rw[aan (by rfl),ab1,beq_self_eq_true]
  ·exact wO (names:=r) h2
theorem tW{scope:Scope}{env:Env}(hf:∀y∈scope.names,y.2=.free->∃c,env.cells.lookup y.1=some c):closureFor scope env=pure (jw env.cells scope.names []):=by
 have key:∀(names:List (Str×NameKind))(cs:List (Str×Addr)),(∀y∈names,y.2=.free->∃c,env.cells.lookup y.1=some c)->
   (forIn names cs λ(x:Str×NameKind) (r:List (Str×Addr))=>(match x with
    | (name,kind)=>if(kind ==NameKind.free)=true then(do let a <-cellOf env name;pure (ForInStep.yield ((name,a)::r))) else pure (ForInStep.yield r):Sem (ForInStep (List (Str×Addr)))))=(pure (jw env.cells names cs):Sem (List (Str×Addr))):=by
  intro names
  induction names with
  | nil=>intro cs _;rfl
  | cons y r ih=>
   intro cs h
   obtain⟨n,k⟩:=y
   rw[List.forIn_cons]
   by_cases hk:(k ==NameKind.free)=true
   ·obtain⟨c,e⟩:=h (n,k) aap (eq_of_beq hk)
    have e:env.cells.lookup n=some c:=e
    have ec:cellOf env n=pure c:=by unfold cellOf;rw[e]
    simp only [hk,if_true,ec,pure_bind]
    rw[ih _ λy hy=>h y (aaa _ hy)]
    simp only [jw,hk,if_true,e,Option.getD_some]
   ·simp only [hk,abQ,pure_bind,aaR]
    rw[ih _ λy hy=>h y (aaa _ hy)]
    simp only [jw,hk,abQ,aaR]
 have q:=key scope.names [] hf
 simp only [closureFor]
 first
  | (rw[q];rfl)
  | (simp only [q,pure_bind])
  | exact(aaQ (λt=>t >>= pure) q).trans (pure_bind _ _)
theorem q9{f:Str->NameKind->NameKind}:∀{names:List (Str×NameKind)} {x:Str},(names.map λy=>(y.1,f y.1 y.2)).lookup x=(names.lookup x).map (f x)
 | [],_=>rfl
 | (n,k)::r,x=>by
  show List.lookup x ((n,f n k)::_)=_
  rw[ab1,ab1]
  cases h:x ==n with
  | true=>rw[eq_of_beq h];rfl
  | false=>exact q9 (names:=r)
theorem lG{scope:Scope}{env:Env}{x:Str}:(relabel scope env).names.lookup x=(scope.names.lookup x).map λk=>if(k ==.free&&env.scope.kind ==.function&&env.kindOf x ==some .cell)=true then .cell else k:=by
 have e:(relabel scope env).names=scope.names.map λy=>(y.1,(λ(n:Str) (k:NameKind)=>if(k ==.free&&env.scope.kind ==.function&&env.kindOf n ==some .cell)=true then NameKind.cell else k) y.1 y.2):=by
  show(scope.names.map _)=_
  refine abY λy _=>?_
  obtain⟨n,k⟩:=y
  show(if(k ==.free&&env.scope.kind ==.function&&env.kindOf n ==some .cell)=true then(n,NameKind.cell) else(n,k))=(n,if(k ==.free&&env.scope.kind ==.function&&env.kindOf n ==some .cell)=true then NameKind.cell else k)
  split<;>rfl
 rw[e]
 exact q9 (f:=λ(n:Str) (k:NameKind)=>if(k ==.free&&env.scope.kind ==.function&&env.kindOf n ==some .cell)=true then NameKind.cell else k)
def blank:List Nat->St->St
 | [],Z=>Z
 | i::r,Z=>blank r (Z.set i none)
theorem BI:∀{is:List Nat} {Z:St},(blank is Z).length=Z.length
 | [],_=>rfl
 | i::r,Z=>by
  show(blank r (Z.set i none)).length=_
  rw[BI,acn]
theorem Ct{Z:St}{i j:Nat}{v:V}(h:(Z.set i none)[j]?=some (some v)):Z[j]?=some (some v)/\j≠i:=by
 by_cases e:j=i
 ·subst e
  by_cases hl:j<Z.length
  ·rw[abd hl] at h;cases h
  ·rw[List.getElem?_eq_none_iff.mpr (by rw[acn];omega)] at h;cases h
 ·rw[abn (abD e)] at h
  exact⟨h,e⟩
theorem BJ:∀{is:List Nat} {Z:St} {j:Nat} {v:V},(blank is Z)[j]?=some (some v)->Z[j]?=some (some v)/\j∉is
 | [],_,_,_,h=>⟨h,by simp⟩
 | i::r,Z,j,v,h=>by
  obtain⟨h1,h2⟩:=BJ (is:=r) (Z:=Z.set i none) h
  obtain⟨h3,h4⟩:=Ct h1
  exact⟨h3,λm=>(XH.mp m).elim h4 h2⟩
def Ig(N:List Str)(out:List (Str×NameKind))(is:List Nat)(names:List (Str×NameKind)):Bool:=
 (names.all λy=>y.2 != .cell&&(y.2 != .free||out.lookup y.1 ==some .cell||out.lookup y.1 ==some .free)&&(y.2 != .local||names.lookup y.1 ==some .local))&&
 (N.zipIdx.all λp=>names.lookup p.1 != some .local||is.contains p.2)
structure Cu(N:List Str)(out:List (Str×NameKind))(is:List Nat)(names:List (Str×NameKind)):Prop where
 FP:∀y∈names,y.2≠.cell
 free:∀y∈names,y.2=.free->out.lookup y.1=some .cell\/out.lookup y.1=some .free
 loc:∀y∈names,y.2=.local->names.lookup y.1=some .local
 own:∀(i:Nat)(x:Str),N[i]?=some x->names.lookup x=some .local->i∈is
theorem Cu.of{N:List Str}{out:List (Str×NameKind)}{is:List Nat}{names:List (Str×NameKind)}(h:Ig N out is names=true):Cu N out is names:=by
 unfold Ig at h
 rw[aa8] at h
 obtain⟨h1,h2⟩:=h
 have a:=abq.mp h1
 have b:=abq.mp h2
 refine⟨λy hy e=>?_,λy hy e=>?_,λy hy e=>?_,λi x hi e=>?_⟩
 ·have q:=a y hy
  rw[e] at q
  simp at q
 ·have q:=a y hy
  simp only [e,aa8,ab_,ace,aaR,false_or,abS] at q
  rcases q.1.2 with z|z
  ·exact .inl z
  ·exact .inr z
 ·have q:=a y hy
  simp only [e,aa8,ab_,ace,aaR,false_or,abS] at q
  exact q.2
 ·have hm:(x,i)∈N.zipIdx:=by
   rw[aaG]
   exact⟨i,by rw[List.getElem?_zipIdx,hi];simp⟩
  have q:=b (x,i) hm
  simp only [e,ab_,ace,aaR,false_or] at q
  exact List.contains_iff_mem.mp q
noncomputable def Cx.block(X:Cx)(scope:Scope)(cl:List (Str×Addr))(C:Addr)(s:Shared)(H:Hp)(ex:List Addr):Cx:=
 {X with env:=compEnvC scope cl C X.env,s₀:=s,H₀:=H,outer:=X.stack,ex:=ex,fn:=λ_=>false,pn:=[],xe:=Mj}
section
variable{X:Cx}{c_:Qqz}{Z:St}{H:Hp}{s:Shared}{scope:Scope}{is:List Nat}{ex:List Addr}{C:Addr}
theorem zw(I:Inv X c_ Z H s)(hs:Cu X.N X.env.scope.names is scope.names):∀y∈scope.names,y.2=.free->∃c,X.env.cells.lookup y.1=some c:=λy hy e=>I.ok.has y.1 (hs.free y hy e)
theorem mE(I:Inv X c_ Z H s)(hs:Cu X.N X.env.scope.names is scope.names){x:Str}{c:Addr}(h:(jw X.env.cells scope.names []).lookup x=some c):X.env.cells.lookup x=some c:=
 (BH (zw I hs) h).resolve_left λz=>nomatch z
theorem JQ(I:Inv X c_ Z H s)(hs:Cu X.N X.env.scope.names is scope.names)(hk:scope.kind=.function)(hC:s.heap.objs.size<=C)(hf:∀b∈ex,uw X c_ H b)(ho:∀b∈ex,∃o,s.heap.get? b=some o) :
  (X.block scope (jw X.env.cells scope.names []) C s H ex).Ok where
 mod:=I.ok.mod
 kind:=hk
 glob:=I.ok.glob
 blt:=I.ok.blt
 above:=hC
 inj:=λx y c h1 h2=>I.ok.inj x y c (mE I hs h1) (mE I hs h2)
 has:=λx hx=>by
  have hx:(relabel scope X.env).names.lookup x=some .cell\/(relabel scope X.env).names.lookup x=some .free:=hx
  rw[lG] at hx
  cases e:scope.names.lookup x with
  | none=>
   rw[e] at hx
   rcases hx with z|z<;>cases z
  | some k=>
   have hm:(x,k)∈scope.names:=abw e
   have hk:k=.free:=by
    rw[e] at hx
    cases k with
    | free=>rfl
    | cell=>exact absurd rfl (hs.FP _ hm)
    | _=>rcases hx with z|z<;>simp at z
   subst hk
   exact wO hm
 Q4:=λ_ _ h=>Bool.noConfusion h
 hd:=I.ok.hd
 frames:=I.ok.frames
 RG:=.inl rfl
 Wg:=λb hb=>by
  obtain⟨o,e⟩:=ho b hb
  exact⟨aaJ (aaB (aas e) hC),λx c h=>(hf b hb).2.2.2.2.1 x c (mE I hs h)⟩
 bs:=I.bs
 L1:=aai I.ok.L1 I.sz
 tP:=λb o e hb=>by
  rcases(hf b hb).2.2.2.1 with z|z
  ·exact I.ok.tP b o e z
  ·exact absurd (aaB (aas (I.ok.bs b o e).1) z) (abi _)
 Js:=λb hb hm=>by
  rcases XH.mp (I.wF b hm) with z|z
  ·exact(hf b hb).2.1 z
  ·exact(hf b hb).2.2.1 z
 u0:=I.stack
 NI:=I.Cg
theorem Ih{h':Heap}{t':Nat}{pl:Qqz}(I:Inv X c_ Z H s)(hs:Cu X.N X.env.scope.names is scope.names)(hk:scope.kind=.function)(hC:s.heap.objs.size<=C)(hf:∀b∈ex,uw X c_ H b)(ho:∀b∈ex,∃o,s.heap.get? b=some o)
  (old:∀b o,s.heap.get? b=some o->h'.get? b=some o) {m:Qqx} (hn:h'.Ns C m)
  (hp:∀p∈pl,h'.get? p.1=some p.2/\s.heap.objs.size<=p.1/\p.1≠C/\∀v,p.2.data≠.cell v) :
  Inv (X.block scope (jw X.env.cells scope.names []) C s H ex) pl (blank is Z) H {s with heap:=h',toks:=t'} where
 ok:=JQ I hs hk hC hf ho
 os:=rfl
 bare:=I.bare
 base:=Un.kept old
 loc:=⟨m,hn,λi x v h1 h2 h3=>by
  have h3:(relabel scope X.env).names.lookup x=some .local\/(relabel scope X.env).names.lookup x=some .cell\/(relabel scope X.env).names.lookup x=some .free:=h3
  obtain⟨h2,hi⟩:=BJ h2
  have h1:X.N[i]?=some x:=h1
  cases e:scope.names.lookup x with
  | none=>
   rw[lG,e] at h3
   rcases h3 with z|z|z<;>cases z
  | some k=>
   have hm:(x,k)∈scope.names:=abw e
   have hk:k=.free:=by
    rw[lG,e] at h3
    cases k with
    | free=>rfl
    | cell=>exact absurd rfl (hs.FP _ hm)
    | «local»=>exact absurd (hs.own i x h1 e) hi
    | _=>rcases h3 with z|z|z<;>simp at z
   subst hk
   have hv:X.env.scope.names.lookup x=some .cell\/X.env.scope.names.lookup x=some .free:=hs.free _ hm rfl
   obtain⟨m0,_,hl⟩:=I.loc
   obtain⟨u,r,q⟩:=hl i x v h1 h2 (.inr hv)
   refine⟨u,r,.inr ⟨?_,?_⟩⟩
   ·show(relabel scope X.env).names.lookup x=some .cell\/(relabel scope X.env).names.lookup x=some .free
    rw[lG,e]
    show some (if _ then NameKind.cell else NameKind.free)=_\/some (if _ then NameKind.cell else NameKind.free)=_
    split
    ·exact .inl rfl
    ·exact .inr rfl
   ·rcases q with⟨z,_⟩|⟨_,c,ec,cc⟩
    ·have z:X.env.scope.names.lookup x=some .local:=z
     rcases hv with hv|hv<;>rw[hv] at z<;>cases z
    ·obtain⟨c',e'⟩:=wO (cells:=X.env.cells) (cs:=[]) hm
     have e2:=mE I hs e'
     rw[ec] at e2
     cases e2
     obtain⟨o,ho,hd⟩:=cc
     exact⟨c,e',o,old _ _ ho,hd⟩⟩
 cell:=λx c h=>by
  obtain⟨v,o,ho,hd⟩:=I.cell x c (mE I hs h)
  exact⟨v,o,old _ _ ho,hd⟩
 free:=I.iM.fresh hC
 pO:=λx c h=>I.pO x c (mE I hs h)
 pin:=λp GB=>by
  obtain⟨h1,h2,h3,h4⟩:=hp p (by simpa[Cx.block] using GB)
  refine⟨h1,I.iM.fresh h2,h3,λhm=>?_,h4⟩
  rcases XH.mp (I.wF p.1 hm) with z|z
  ·exact absurd (aaB I.lt (by rw[<-z];exact h2)) (abi _)
  ·exact I.RH h2 z
 iM:=I.iM.kept old
 len:=by rw[BI];exact I.len
end
theorem lH{X:Cx}{scope:Scope}{cl:List (Str×Addr)}{C:Addr}{s:Shared}{H:Hp}{ex:List Addr}:(X.block scope cl C s H ex).K=X.K:=rfl
theorem PE.eqv{X:Cx}{e:Expr}{t t':TE}(h:PE X e t')(q:t'=t):PE X e t:=q▸h
def OZ(X:Cx)(ifs:List Expr)(t:TT):Prop:=
 ∀(c_:Qqz)(s:Shared)(Z:St)(H:Hp)(Q:Bool->Hp->Prop),Inv X c_ Z H s->t Z H Q->
  wpAny (model X.prog X.w) X.A (forIn ifs true λc r=>if r=true then do let ok <-isTrue c X.env (eval c X.env);pure (ForInStep.yield ok) else pure (ForInStep.yield r)) (TP X c_ Z Q) X.xe s
def WL:TT:=λ_ H Q=>Q true H
theorem nV{X:Cx}:OZ X [] WL:=λ_ _ _ H _ I h=>wpAny_tests_nil ⟨H,I,h⟩
theorem qr{X:Cx}{c:Expr}{t:TT}(h:PT X c t):OZ X [c] t:=λc_ s Z H Q I hw=>wpAny_tests_one (h c_ s Z H Q I hw)
def Ii(g:TG)(tt:TT)(te:TE)(J:It)(Q:List V->Hp->Prop)(Z:St)(H:Hp):Prop:=
 ∃W:Nat->Nat->List V->St->Hp->Prop,(∃m,W 0 m [] Z H)/\∀i m ys Z H,W i m ys Z H->
  (J.stop i H/\ys.length<=sizeLine/\Q ys H)\/
  (J.go i H/\ys.length<=sizeLine/\∃N:List V->St->Hp->Prop,(∀Ri Z' H',N Ri Z' H'->∃m',m'<m/\W (i+1) m' Ri Z' H')/\
   ∀x H',J.Jx i H x H'->g x Z H' λZ2 H2=>tt Z2 H2 λb H3=>if b=true then te Z2 H3 λv H4=>N (ys++[v]) Z2 H4 else N ys Z2 H3)
def Va(is:List Nat)(wi:TI)(g:TG)(tt:TT)(te:TE):TE:=λZ H Q=>wi Z H λJ H1=>Ii g tt te J (λys H2=>∀p,H2 p=none->Q (.ref p) (upd H2 p (.lst ys))) (blank is Z) H1
section
variable{P:Program}{w:World}
theorem rD.R_{H:Hp}{h:Heap}{a:Addr}{o:HO}(x:rD P w H h)(hn:H a=none)(new:i7 P w (upd H a o) h a o):rD P w (upd H a o) h:=λb u q=>by
 by_cases hb:b=a
 ·subst hb;rw[b_] at q;cases q;exact new
 ·rw[e_ hb] at q
  exact(x b u q).zi (λ_ _ _ r=>r) (λc r=>by rw[e_ (gv r hn)];exact r) λc xs r=>by rw[e_ (gv r hn)];exact r
end
abbrev Cv(ys:List Value)(n:Nat):Obj:={cls:=.type "list",data:=.seq ys.toArray n}
section
variable{X:Cx}{c_:Qqz}{Z:St}{H:Hp}{s:Shared}{scope:Scope}{is:List Nat}
theorem BK{E:Qqq}{elt tg iter:Expr}{ifs:List Expr}{pos:Pos}{it:Addr}{fp:List Addr}{tn:Nat->Heap->Prop}{J:It}{g:TG}{tt:TT}{te:TE}{Fin:List V->Hp->Prop}{RR:Value->Addr->Result->Shared->Prop}
  (I:Inv X c_ Z H s) (hc:X.calm=true) (hs:Cu X.N X.env.scope.names is scope.names) (hk:scope.kind=.function)
  (hg:∀C s H ex,PG (X.block scope (jw X.env.cells scope.names []) C s H ex) tg g) (ht:∀C s H ex,OZ (X.block scope (jw X.env.cells scope.names []) C s H ex) ifs tt)
  (he:∀C s H ex,PE (X.block scope (jw X.env.cells scope.names []) C s H ex) elt te)
  (T:Turn X.prog X.w X.K tg J fp it tn) (st:tn 0 s.heap) (hf:∀b∈fp,uw X c_ H b) (h:Ii g tt te J Fin (blank is Z) H)
  (hRR:∀(D C:Addr)(ys:List V)(gU:List Value)(n:Nat)(H':Hp)(s':Shared)(m:Qqx),s.heap.objs.size<=D->s.heap.objs.size<=C->D≠C->s'.heap.Ns C m->s'.heap.get? D=some (Cv gU n)->Vals ys gU->ys.length<=sizeLine->
   H' D=none->H' C=none->s'.os=s.os->AllBare s'.gens->Un (uu X.stack) fp H H' s.heap s'.heap->rD X.prog X.w H' s'.heap->Fin ys H'->RR (.ref D) C (.ok .next) s') :
  wpAny (model X.prog X.w) X.A (newList []) (λacc s3=>wpAny (model X.prog X.w) X.A (newFunctionEnv scope X.env.globals (jw X.env.cells scope.names []) [] X.env.qual none .none (some X.env)) (λTn s4=>
   codeAny (model X.prog X.w) X.A (.compStart (.ListComp elt [⟨tg,iter,ifs,0⟩] scope pos) 0 (.ref it) acc {Tn with scope:=relabel scope X.env}) (RR acc Tn.locals) s4) E s3) E s:=by
 refine wpAny_newObj_type (wpAny_newFunctionEnv hs.FP (by intro y hy;simp at hy) (λh1 Qs Nn=>?_) hk)
 dsimp only at Qs Nn ⊢
 generalize Xp:s.heap.push {cls:=.type "list",dict:=none,data:=.seq ([]:List Value).toArray}=H2 at Qs Nn ⊢
 have hC:H2.objs.size=s.heap.objs.size+1:=by rw[<-Xp,Heap.size_push]
 have Np:s.heap.objs.size≠H2.objs.size:=by rw[hC];exact aaJ (acf _)
 have To:s.heap.objs.size<=H2.objs.size:=by rw[hC];exact Nat.le_succ _
 have below:∀b,b<s.heap.objs.size->b≠H2.objs.size/\b≠s.heap.objs.size:=λb hb=>⟨by rw[hC];exact aaJ (Nat.lt_succ_of_lt hb),aaJ hb⟩
 have old:∀b o,s.heap.get? b=some o->h1.get? b=some o:=λb o e=>Nn.extBut b o (below b (aas e)).1 (aaj _ (Xp▸aaj _ e))
 have wx:h1.get? s.heap.objs.size=some (Cv [] 0):=Nn.extBut _ _ Np (aaj _ (Xp▸aax _ rfl))
 have Xq:∀b∈fp,∃o,s.heap.get? b=some o:=λb hb=>let ⟨o,e,_⟩:=T.obj 0 _ st b hb;⟨o,e⟩
 have hfD:∀b∈fp,b≠s.heap.objs.size:=λb hb=>let ⟨o,e⟩:=Xq b hb;(below b (aas e)).2
 have hfC:∀b∈fp,b≠H2.objs.size:=λb hb=>let ⟨o,e⟩:=Xq b hb;(below b (aas e)).1
 generalize hD:s.heap.objs.size=D at *
 generalize hCC:H2.objs.size=C at *
 have Tp:∀x c,(jw X.env.cells scope.names []).lookup x=some c->c≠D:=λx c e z=>by
  obtain⟨v,q⟩:=I.cell x c (mE I hs e)
  exact absurd q.lt (by rw[z,hD];exact abi _)
 let XB:=X.block scope (jw X.env.cells scope.names []) C s H fp
 have I1:Inv XB [(D,Cv [] 0)] (blank is Z) H {s with heap:=h1,toks:=s.toks+([]:List (Str×Value)).length}:=
  Ih I hs hk (by rw[hD];exact To) hf Xq old Qs λp hp=>by
   rw[WO.mp hp]
   exact⟨wx,Nat.le_of_eq hD,Np,λv z=>nomatch z⟩
 have Xr:∀{pl:Qqz} {H':Hp},(∀p∈pl,p.1=D)->(∀b∈fp,H' b=none)->∀b∈fp,uw XB pl H' b:=λ{pl H'} qU hn b hb=>
  ⟨hn b hb,hfC b hb,λhm=>by
   rcases XH.mp (I.wF b hm) with z|z
   ·exact(hf b hb).2.1 z
   ·exact(hf b hb).2.2.1 z,.inl hb,λx c e=>(hf b hb).2.2.2.2.1 x c (mE I hs e),λp hp=>by
   have hp:p∈pl:=by simpa[XB,Cx.block] using hp
   rw[qU p hp]
   exact abD (hfD b hb)⟩
 obtain⟨W,⟨m0,w0⟩,turn⟩:=h
 have Ji:tn 0 h1:=T.keep _ _ _ st λb _ o e=>old b o e
 have loop:codeAny (model X.prog X.w) X.A (.compLoop (.ListComp elt [⟨tg,iter,ifs,0⟩] scope pos) 0 (.ref it) (.ref D) (compEnvC scope (jw X.env.cells scope.names []) C X.env)) (RR (.ref D) C) {s with heap:=h1,toks:=s.toks+([]:List (Str×Value)).length}:=by
  refine Cs (λk s'=>∃i ys gU n Z' H',Inv XB [(D,Cv gU n)] Z' H' s'/\Vals ys gU/\tn i s'.heap/\(∀b∈fp,H' b=none)/\W i k ys Z' H') ?_ m0 ⟨0,[],[],0,_,_,I1,.nil,Ji,λb hb=>(hf b hb).1,w0⟩
  rintro k s3 ⟨i,ys,gU,n,Z3,H3,I3,vs,uY,Td,w3⟩
  have qU:∀p∈[(D,Cv gU n)],p.1=D:=λp hp=>by rw[WO.mp hp]
  rcases turn i k ys Z3 H3 w3 with⟨stop,hz,qn⟩|⟨go,hz,N,hN,step⟩
  ·refine i8 (T.done XB rfl rfl rfl hc i _ s3 Z3 H3 Mj I3 (Xr qU Td) uY stop) λr s4 iJ=>?_
   obtain⟨hr,I4⟩:=iJ
   subst hr
   obtain⟨m',Rh,_⟩:=I4.loc
   have pD:=I4.pin (D,Cv gU n) (by simp[XB,Cx.block])
   exact hRR D C ys gU n H3 s4 m' (WR _) To Np Rh pD.1 vs hz pD.2.1 I4.free I4.os I4.bare I4.base I4.iM qn
  ·refine i8 (T.item XB rfl rfl rfl hc i _ s3 Z3 H3 Mj I3 (Xr qU Td) uY go) λr s4 iJ=>?_
   obtain⟨u,hr,h4⟩:=iJ
   subst hr
   refine i8 h4 λ_ s5 iJ=>?_
   obtain⟨x,H5,I5,r5,y5,Qm,Xd⟩:=iJ
   have Xe:=I5.pinned (Xr qU Xd) (T.obj _ _ Qm)
   refine i8 (hg C s H fp _ s5 Z3 H5 x u _ Xe r5 (step x H5 y5)) λ_ s6 iJ=>?_
   obtain⟨Z6,H6,I6,q6⟩:=iJ
   have Cc:∀{Z7:St} {H7:Hp} {s7:Shared},Inv XB ([(D,Cv gU n)]++zm fp s5.heap) Z7 H7 s7->tn (i+1) s7.heap/\∀b∈fp,H7 b=none:=λ{Z7 H7 s7} I7=>
    ⟨T.keep _ _ _ Qm λb hb o e=>(I7.pin (b,o) (aay _ (aay _ (qp hb e)))).1,λb hb=>by
     obtain⟨o,e,d⟩:=T.obj _ _ Qm b hb
     exact(I7.pin (b,o) (aay _ (aay _ (qp hb e)))).2.1⟩
   refine i8 (ht C s H fp _ s6 Z6 H6 _ I6 q6) λok s7 iJ=>?_
   obtain⟨H7,I7,q7⟩:=iJ
   cases ok with
   | false=>
    rw[aac aae] at q7 ⊢
    obtain⟨m',hm,w7⟩:=hN _ _ _ q7
    exact⟨m',hm,i+1,ys,gU,n,Z6,H7,I7.vd,vs,(Cc I7).1,(Cc I7).2,w7⟩
   | true=>
    rw[aan rfl] at q7 ⊢
    refine i8 (he C s H fp _ s7 Z6 H7 _ I7 q7) λy s8 iJ=>?_
    obtain⟨v,H8,I8,r8,n8⟩:=iJ
    obtain⟨m',hm,w8⟩:=hN _ _ _ n8
    obtain⟨st8,fr8⟩:=Cc I8
    have pD:=I8.pin (D,Cv gU n) (by simp)
    have hl:=vs.length
    refine append_at (hsz:=by show gU.toArray.size<=sizeLine;rw[aag,<-hl];exact hz) pD.1 λh9 sb9 e9=>?_
    have I9:Inv XB [] Z6 H8 {s8 with heap:=h9}:=by
     have J8:Inv XB [] Z6 H8 s8:=I8.y4 λp hp=>nomatch hp
     exact J8.turned (t':=s8.toks) (it:=D) (λb o hb e=>sb9.extBut b o hb e) pD.2.1 Np (.inr (Nat.le_of_eq hD)) (λx c e=>Tp x c e) λp hp=>by simp[XB,Cx.block] at hp
    refine⟨m',hm,i+1,ys++[v],gU++[y],n+1,Z6,H8,I9.y4 λp hp=>?_,vs.append (.cons r8 .nil),T.keep _ _ _ st8 λb hb o e=>sb9.extBut b o (hfD b hb) e,fr8,w8⟩
    rw[WO.mp hp]
    refine⟨?_,pD.2.1,Np,λhm=>?_,λv z=>nomatch z⟩
    ·rw[e9]
     show some _=some _
     rw[List.push_toArray]
    ·exact pD.2.2.2.1 hm
 exact codeAny_compStart_list loop (T.self _ 0 _ _ _ Ji loop)
variable{elt tg iter:Expr}{ifs:List Expr}{pos Lq py:Pos}{wi:TI}{g:TG}{tt:TT}{te:TE}
theorem xS{D:Addr}{ys:List V}{gU:List Value}{n:Nat}{H':Hp}{s':Shared}{fp:List Addr}(I:Inv X c_ Z H s)(hf:∀b∈fp,uw X c_ H b)(hD:s.heap.objs.size<=D)(e:s'.heap.get? D=some (Cv gU n))(vs:Vals ys gU)(hz:ys.length<=sizeLine)
  (nD:H' D=none) (os:s'.os=s.os) (bare:AllBare s'.gens) (un:Un (uu X.stack) fp H H' s.heap s'.heap) (iM:rD X.prog X.w H' s'.heap):Inv X c_ Z (upd H' D (.lst ys)) s':=by
 have neD:∀b o,s.heap.get? b=some o->b≠D:=λb o q=>aaJ (aaB (aas q) hD)
 refine I.RI (ch:=fp) os ⟨un.keep,un.slot,λb o q nn hx=>by rw[e_ (neD b o q)];exact un.free b o q nn hx,un.there,λb xs q=>?_,λb o u q=>?_,λb ps q=>?_⟩ (iM.R_ nD ⟨hz,gU,n,vs,e⟩) bare λb hb=>?_
 ·have q':=un.pN b xs q
  rw[e_ (gv q' nD)];exact q'
 ·have q':=un.uZ b o u q
  rw[e_ (gv q' nD)];exact q'
 ·obtain⟨more,q'⟩:=un.yL b ps q
  exact⟨more,by rw[e_ (gv q' nD)];exact q'⟩
 ·obtain⟨f0,f1,f2,f3,f4,f5⟩:=hf b hb
  exact⟨f3,f1,f4,f5⟩
theorem zx{C:Addr}{h':Heap}{s0:Shared}(I:Inv X c_ Z H s)(hC:s0.heap.objs.size<=C)(nC:H C=none)(Tq:Heap.SameBut C s.heap h')(I0:∃Z0 H0,Inv X c_ Z0 H0 s0):Inv X c_ Z H {s with heap:=h'}:=by
 obtain⟨Z0,H0,I0⟩:=I0
 obtain⟨_,f1,_,f3,f4,f5⟩:=I0.zj (H':=λ_=>none) hC rfl
 exact I.turned (t':=s.toks) (λb o hb e=>Tq.extBut b o hb e) nC f1 f3 f4 f5
theorem xT(N:List Str)(out:List (Str×NameKind))(is:List Nat)(hc:X.calm=true)(hi:PI X tg iter wi)(hk:scope.kind=.function)(hs:Ig N out is scope.names=true)
  (hg:∀C s H ex,PG (X.block scope (jw X.env.cells scope.names []) C s H ex) tg g) (ht:∀C s H ex,OZ (X.block scope (jw X.env.cells scope.names []) C s H ex) ifs tt)
  (he:∀C s H ex,∃t,PE (X.block scope (jw X.env.cells scope.names []) C s H ex) elt t/\t=te) (wD:∀x,foldedSetIterable iter X.env x=pure x:=by intro _;rfl) (eN:X.N=N:=by rfl) (eo:X.env.scope.names=out:=by rfl) :
  PE X (.ListComp elt [⟨tg,iter,ifs,0⟩] scope pos) (Va is wi g tt te):=by
 intro c_ s Z H Q I h
 subst eN eo
 have S:=Cu.of hs
 rw[eval_ListComp]
 refine wpAny_comprehension_free (use:=none) rfl wD (tW (zw I S)) hk S.loc (i8 (hi c_ s Z H _ I h) λv s1 h1=>i8 h1 λVk s2 h2=>?_)
 obtain⟨it,fp,tn,J,H2,rfl,I2,T,Bp,f2,h2⟩:=h2
 refine BK (RR:=λacc C=>compPost (model X.prog X.w) X.A X.xe none (EP X c_ Z Q) acc C) I2 hc S hk hg ht (λC s H ex=>let ⟨_,h,e⟩:=he C s H ex;PE.eqv h e) T Bp f2 h2 ?_
 intro D C ys gU n H' s' m hD hC Np hn e vs hz nD nC os bare un iM q
 have J1:Inv X c_ Z (upd H' D (.lst ys)) s':=xS I2 f2 hD e vs hz nD os bare un iM
 refine⟨m,hn,λh' Tq=>⟨.ref D,_,zx J1 hC (by rw[e_ (abD Np)];exact nC) Tq ⟨_,_,I2⟩,rfl,q D nD⟩⟩
theorem En{y:Str}{j:Nat}(N:List Str)(out:List (Str×NameKind))(is:List Nat)(hN:X.N.Nodup)(hj:X.N[j]?=some y)(hy:X.env.scope.names.lookup y=some .local)(hc:X.calm=true)(hi:PI X tg iter wi)(hk:scope.kind=.function)(hs:Ig N out is scope.names=true)
  (hg:∀C s H ex,PG (X.block scope (jw X.env.cells scope.names []) C s H ex) tg g) (ht:∀C s H ex,OZ (X.block scope (jw X.env.cells scope.names []) C s H ex) ifs tt)
  (he:∀C s H ex,∃t,PE (X.block scope (jw X.env.cells scope.names []) C s H ex) elt t/\t=te)
  (Xs:swapsWith (.ListComp elt [⟨tg,iter,ifs,0⟩] scope pos) (some (.Name y py)) Lq.line X.env=pure true:=by rfl) (wD:∀x,foldedSetIterable iter X.env x=pure x:=by intro _;rfl) (eN:X.N=N:=by rfl) (eo:X.env.scope.names=out:=by rfl) :
  PS X (.Assign [.Name y py] (.ListComp elt [⟨tg,iter,ifs,0⟩] scope pos) Lq) (Jw (Va is wi g tt te) (nE j)):=by
 intro c_ s Z H Dn I h
 subst eN eo
 have S:=Cu.of hs
 rw[exec_Assign_Name_used _ _ _ _ Xs]
 refine TN (wpAny_standAt (TN ?_))
 show wpAny _ _ (do let _ <-comprehension (.ListComp elt [⟨tg,iter,ifs,0⟩] scope pos) scope X.env _ (newList []) false (eval iter X.env) (some (assign (.Name y py) X.env))) _ _ s
 refine TN (abo (wpAny_comprehension_free (use:=some (assign (.Name y py) X.env)) (Q:=λ_ s'=>SP X c_ Dn .next s') rfl wD (tW (zw I S)) hk S.loc
  (i8 (hi c_ s Z H _ I h) λv s1 h1=>i8 h1 λVk s2 h2=>?_)) (λ_ s' hq=>aaf (aaf hq)) λ_ _ e=>e)
 obtain⟨it,fp,tn,J,H2,rfl,I2,T,Bp,f2,h2⟩:=h2
 refine BK (RR:=λacc C=>compPost (model X.prog X.w) X.A X.xe (some (assign (.Name y py) X.env)) (λ_ s'=>SP X c_ Dn .next s') acc C) I2 hc S hk hg ht (λC s H ex=>let ⟨_,h,e⟩:=he C s H ex;PE.eqv h e) T Bp f2 h2 ?_
 intro D C ys gU n H' s' m hD hC Np hn e vs hz nD nC os bare un iM q
 have J1:Inv X c_ Z (upd H' D (.lst ys)) s':=xS I2 f2 hD e vs hz nD os bare un iM
 show wpAny _ _ (assign (.Name y py) X.env (.ref D)) _ _ _
 refine wpAny_assign_Name (Bv J1 hN hj (.inl hy) (v:=.ref D) rfl (λs5 J5 iJ=>?_) (.inr hy))
 obtain⟨a,sb,ha⟩:=iJ
 have hCa:C≠a:=by
  obtain⟨_,f1,_,f3,f4,f5⟩:=I2.zj (H':=λ_=>none) hC rfl
  rcases ha with z|z
  ·rw[z];exact f1
  ·exact λq=>f4 _ _ z q.symm
 exact⟨m,hn.sameBut sb hCa,λh' Tq=>⟨_,_,zx J5 hC (by rw[e_ (abD Np)];exact nC) Tq ⟨_,_,I2⟩,q D nD⟩⟩
end
section
variable{X:Cx}{elt tg iter:Expr}{ifs:List Expr}{scope:Scope}{pos:Pos}{wi:TI}{g:TG}{tt:TT}{te:TE}{py Lq:Pos}
theorem zy(N:List Str)(out:List (Str×NameKind))(is:List Nat)(hc:X.calm=true)(hi:PI X tg iter wi)(hk:scope.kind=.function)(hs:Ig N out is scope.names=true)
 (hg:∀C s H ex,PG (X.block scope (jw X.env.cells scope.names []) C s H ex) tg g) (ht:∀C s H ex,∃t,OZ (X.block scope (jw X.env.cells scope.names []) C s H ex) ifs t/\t=tt)
 (he:∀C s H ex,∃t,PE (X.block scope (jw X.env.cells scope.names []) C s H ex) elt t/\t=te) (wD:∀x,foldedSetIterable iter X.env x=pure x:=by intro _;rfl) (eN:X.N=N:=by rfl) (eo:X.env.scope.names=out:=by rfl) :
 PE X (.ListComp elt [⟨tg,iter,ifs,0⟩] scope pos) (Va is wi g tt te):=xT N out is hc hi hk hs hg (λC s H ex=>let ⟨_,h,e⟩:=ht C s H ex;e▸h) he wD eN eo
theorem Cw{y:Str}{j:Nat}(N:List Str)(out:List (Str×NameKind))(is:List Nat)(hN:X.N.Nodup)(hj:X.N[j]?=some y)(hy:X.env.scope.names.lookup y=some .local)(hc:X.calm=true)(hi:PI X tg iter wi)(hk:scope.kind=.function)(hs:Ig N out is scope.names=true)
 (hg:∀C s H ex,PG (X.block scope (jw X.env.cells scope.names []) C s H ex) tg g) (ht:∀C s H ex,∃t,OZ (X.block scope (jw X.env.cells scope.names []) C s H ex) ifs t/\t=tt)
 (he:∀C s H ex,∃t,PE (X.block scope (jw X.env.cells scope.names []) C s H ex) elt t/\t=te)
 (Xs:swapsWith (.ListComp elt [⟨tg,iter,ifs,0⟩] scope pos) (some (.Name y py)) Lq.line X.env=pure true:=by rfl) (wD:∀x,foldedSetIterable iter X.env x=pure x:=by intro _;rfl) (eN:X.N=N:=by rfl) (eo:X.env.scope.names=out:=by rfl) :
 PS X (.Assign [.Name y py] (.ListComp elt [⟨tg,iter,ifs,0⟩] scope pos) Lq) (Jw (Va is wi g tt te) (nE j)):=En N out is hN hj hy hc hi hk hs hg (λC s H ex=>let ⟨_,h,e⟩:=ht C s H ex;e▸h) he Xs wD eN eo
end
theorem vw{lo:Int}{n:Nat}{g:TG}{tt:TT}{te:TE}{Q:List V->Hp->Prop}{Z:St}{H:Hp}(hn:n<=sizeLine)(Pv:Nat->List V->St->Hp->Prop)(h0:Pv 0 [] Z H)(hlen:∀i ys Z H,Pv i ys Z H->ys.length<=i)
  (hs:∀i ys Z H,i<n->Pv i ys Z H->g (.int (lo+i)) Z H λZ2 H2=>tt Z2 H2 λb H3=>if b=true then te Z2 H3 λv H4=>Pv (i+1) (ys++[v]) Z2 H4 else Pv (i+1) ys Z2 H3)
  (hd:∀ys Z H,Pv n ys Z H->Q ys H):Ii g tt te (NJ lo n) Q Z H:=by
 refine⟨λi m ys Z H=>m=n-i/\i<=n/\Pv i ys Z H,⟨n,by simp,aaI _,h0⟩,?_⟩
 rintro i m ys Z H ⟨rfl,hi,p⟩
 have hl:=hlen i ys Z H p
 by_cases jT:i<n
 ·refine .inr ⟨jT,by omega,Pv (i+1),λRi Z' H' p'=>⟨n-(i+1),by omega,rfl,jT,p'⟩,λx H' y=>?_⟩
  obtain⟨rfl,rfl⟩:=y
  exact hs i ys Z _ jT p
 ·have e:i=n:=by omega
  subst e
  exact .inl ⟨WR _,by omega,hd ys Z H p⟩
theorem kR{K:Qqy}{a:Addr}{xs:List V}{g:TG}{tt:TT}{te:TE}{Q:List V->Hp->Prop}{Z:St}{H:Hp}(hn:xs.length<=sizeLine)(Pv:Nat->List V->St->Hp->Prop)(h0:Pv 0 [] Z H)(hl:∀i ys Z H,i<=xs.length->Pv i ys Z H->gO K H a xs/\ys.length<=i)
  (hs:∀i x ys Z H,xs[i]?=some x->Pv i ys Z H->g x Z H λZ2 H2=>tt Z2 H2 λb H3=>if b=true then te Z2 H3 λv H4=>Pv (i+1) (ys++[v]) Z2 H4 else Pv (i+1) ys Z2 H3)
  (hd:∀ys Z H,Pv xs.length ys Z H->Q ys H):Ii g tt te (Q5 K a) Q Z H:=by
 refine⟨λi m ys Z H=>m=xs.length-i/\i<=xs.length/\Pv i ys Z H,⟨xs.length,by simp,aaI _,h0⟩,?_⟩
 rintro i m ys Z H ⟨rfl,hi,p⟩
 obtain⟨q,hy⟩:=hl i ys Z H hi p
 by_cases jT:i<xs.length
 ·refine .inr ⟨⟨xs,xs[i],q,by simp[jT]⟩,by omega,Pv (i+1),λRi Z' H' p'=>⟨xs.length-(i+1),by omega,rfl,jT,p'⟩,λx H' y=>?_⟩
  obtain⟨rfl,y⟩:=y
  exact hs i x ys Z _ (y xs q) p
 ·have e:i=xs.length:=by omega
  subst e
  exact .inl ⟨⟨xs,q,WR _⟩,by omega,hd ys Z H p⟩
end L2
namespace PySem
section
variable{prog:Program}{w:World}{A:Around}{E:Qqq}{s:Shared}
end
end PySem
namespace L2
open PySem PySem.Spec PyProof.Rows
def Sb(lo st:Int)(n:Nat):It:=⟨λi _=>i<n,λi H x H'=>H'=H/\x=.int (lo+i*st),λi _=>n<=i⟩
theorem Eo{P:Program}{w:World}{K:PySem.W.Frag}{tg:Expr}(it:Addr)(lo st:Int)(n:Nat):Turn P w K tg (Sb lo st n) [it] it (λi h=>IsRangeIter h it (lo+(i:Nat)*st) ((n:Int)-(i:Nat)) st) where
 mem:=by simp
 obj:=λi h st b hb=>by
  have e:b=it:=by simpa using hb
  subst e
  exact⟨_,st,λv z=>by
   have z':Data.fields _=Data.cell v:=z
   cases z'⟩
 keep:=λi h h' st k=>k it (by simp) _ st
 item:=by
  intro X hP hw hK hc i c_ s Z H E I hf stt hg
  subst hP hw hK
  obtain⟨f0,f1,f2,f3,f4,f5⟩:=hf it (by simp)
  have W:=Walks.range (prog:=X.prog) (w:=X.w) (I.ok.hd hc) it lo st n
  refine W.item i s _ _ hg stt λv h' tk hv yJ kk=>?_
  obtain⟨t,rfl⟩:=hv
  have I1:Inv X c_ Z H {s with heap:=h',toks:=tk}:=I.turned (λb o hb e=>kk b o (by simpa using hb) e) f0 f1 f3 f4 f5
  exact⟨_,rfl,zl (s:={s with heap:=h',toks:=tk}) (n:="range_iterator") yJ rfl rfl (by decide) ⟨.int (lo+i*st),H,I1,⟨t,rfl⟩,⟨rfl,rfl⟩,yJ,λb hb=>(hf b hb).1⟩⟩
 done:=by
  intro X hP hw hK hc i c_ s Z H E I hf st hg
  subst hP hw hK
  obtain⟨f0,f1,f2,f3,f4,f5⟩:=hf it (by simp)
  exact wpAny_pyNext_range_end (I.ok.hd hc) st (by have:n<=i:=hg;omega) λh' eb=>⟨rfl,I.turned (t':=s.toks) (λb o hb e=>eb b o hb e) f0 f1 f3 f4 f5⟩
 self:=λ_ _ _ _ _ st h=>wpAny_pyIter_rangeiter st h
theorem rangeSize_down(a b:Int):Builtin.Range.rangeSize a b (-1)=((a-b).toNat:Int):=by
 unfold Builtin.Range.rangeSize
 simp only [show ¬((-1:Int)>0) by decide,abQ]
 have e:(- -1:Int)=1:=by decide
 rw[e,Int.ediv_one]
 split<;>omega
theorem small_down{a b:Int}(ha:-(2 ^ 61)<=a)(ha':a<2 ^ 61)(hb:-(2 ^ 61)<=b)(hb':b<2 ^ 61):Builtin.Range.small a b (-1)=true:=by
 unfold Builtin.Range.small
 rw[rangeSize_down]
 simp only [Builtin.Range.rangeFitsLong,aa8,ab_,abU,abS,show ¬((-1:Int)>0) by decide,abQ]
 omega
section
variable{X:Cx}{tg:Expr}
def Sd(ta:TA):TI:=λZ H R=>ta Z H λvs H1=>∃i j:Int,vs=[.int i,.int j,.int (-1)]/\(-(2 ^ 61)<=i/\i<2 ^ 61/\-(2 ^ 61)<=j/\j<2 ^ 61)/\R (Sb i (-1) (i-j).toNat) H1
theorem wQ{a b c:Expr}{ta:TA}{p pos:Pos}(hg:Gl X "range")(hm:X.mg "range"=none)(ha:PA X [a,b,c] ta)(hs:starEach [a,b,c] X.env=[(false,eval a X.env),(false,eval b X.env),(false,eval c X.env)]:=by rfl)
  (Jm:starEach [b,c] X.env=[(false,eval b X.env),(false,eval c X.env)]:=by rfl):PI X tg (.Call (.Name "range" p) [a,b,c] [] pos) (Sd ta):=by
 intro c_ s Z H R I h
 refine Call_ (pe I hg hm boot_range (aa1 (i8 (ha pos c_ s Z H _ I h) λus s1 iJ=>?_) (by rw[hs,Jm]) (by rw[Jm];rfl)))
 obtain⟨vs,H1,I1,r1,q1⟩:=iJ
 obtain⟨i,j,e,⟨q1,q2,q3,q4⟩,q⟩:=q1
 subst e
 cases r1 with
 | cons r rr=>
  cases rr with
  | cons r' rr=>
   cases rr with
   | cons r'' rr=>
    cases rr
    obtain⟨t,rfl⟩:=r
    obtain⟨t',rfl⟩:=r'
    obtain⟨t'',rfl⟩:=r''
    refine call_range_3 (by decide) ?_ (Or.inl (PyProof.noPylong_small (by decide)))
    refine wpAny_pyIter_range (IsRange.new ..) (small_down q1 q2 q3 q4) ?_
    generalize ho:({cls:=.type "range",data:=.fields #[.int i t,.int j t',.int (-1) t'']}:Obj)=o
    have I2:Inv X c_ Z H1 {s1 with heap:=s1.heap.push o,toks:=s1.toks}:=I1.kept λb o e=>aaj _ e
    refine⟨(s1.heap.push o).objs.size,[(s1.heap.push o).objs.size],_,_,H1,rfl,I2.kept (t':=s1.toks) λb o e=>aaj _ e,Eo _ i (-1) (i-j).toNat,?_,λb hb=>?_,q⟩
    ·show IsRangeIter _ _ (i+((0:Nat):Int)*(-1)) ((((i-j).toNat:Nat):Int)-((0:Nat):Int)) (-1)
     have e1:i+((0:Nat):Int)*(-1)=i:=by simp
     have e2:(((i-j).toNat:Nat):Int)-((0:Nat):Int)=Builtin.Range.rangeSize i j (-1):=by rw[rangeSize_down];simp
     rw[e1,e2]
     exact aax _ rfl
    ·have e:b=(s1.heap.push o).objs.size:=by simpa using hb
     subst e
     exact I2.zj (WR _) (I2.iM.fresh (WR _))
end
theorem uA{lo st:Int}{n:Nat}{g:TG}{tb:TS}{D:Ends}{Z:St}{H:Hp}(Pv:Nat->St->Hp->Prop)(h0:Pv 0 Z H)
  (hs:∀i Z H,i<n->Pv i Z H->g (.int (lo+i*st)) Z H λZ2 H2=>tb {D with nx:=Pv (i+1),ct:=Pv (i+1),bk:=D.nx} Z2 H2) (hd:∀Z H,Pv n Z H->D.nx Z H) :
  ∃W:Nat->Nat->St->Hp->Prop,(∃m,W 0 m Z H)/\∀i m Z H,W i m Z H->
   ((Sb lo st n).stop i H/\D.nx Z H)\/((Sb lo st n).go i H/\∃N:St->Hp->Prop,(∀Z' H',N Z' H'->∃m',m'<m/\W (i+1) m' Z' H')/\∀x H',(Sb lo st n).Jx i H x H'->g x Z H' λZ2 H2=>tb {D with nx:=N,ct:=N,bk:=D.nx} Z2 H2):=by
 refine⟨λi m Z H=>m=n-i/\i<=n/\Pv i Z H,⟨n,by simp,aaI _,h0⟩,?_⟩
 rintro i m Z H ⟨rfl,hi,p⟩
 by_cases jT:i<n
 ·refine .inr ⟨jT,Pv (i+1),λZ' H' p'=>⟨n-(i+1),by omega,rfl,jT,p'⟩,λx H' y=>?_⟩
  obtain⟨e,y⟩:=y
  subst e y
  exact hs i Z _ jT p
 ·have e:i=n:=by omega
  subst e
  exact .inl ⟨WR _,hd Z H p⟩
section
variable{X:Cx}
theorem j5:ve X (.builtin "isinstance") (λxs H Q=>∃x T t b,xs=[x,.ty T]/\wJ X.K H x t/\W.kitOne X.K t (.type T)=some b/\Q (.bl b) H):=by
 intro c_ s Z H xs us Q I r h
 obtain⟨x,T,t,b,rfl,ty,e,q⟩:=h
 obtain⟨u,u',rfl,ru,ru'⟩:=vals2 r
 cases (show u'=Value.type T from ru')
 exact HY I ru ty e λtk=>⟨.bl b,H,I.tok tk,rfl,q⟩
theorem zz:∀{xs:List Str} {us:List Value},Vals (xs.map V.str) us->StrsAre us xs
 | [],_,h=>by cases h;exact .nil
 | x::r,_,h=>by
  cases h with
  | cons a t=>
   obtain⟨tk,rfl⟩:=a
   exact .cons x tk (zz t)
def rJoin(K:Qqy):V->List V->Hp->VK->Prop:=λx vs H Q=>∃z l xs,x=.str z/\vs=[.ref l]/\gO K H l (xs.map V.str)/\(xs.map (·.length)).sum+xs.length*z.length<=16777216/\Q (.str (Txt.join z xs)) H
theorem Ml:Wz X "str.join" (rJoin X.K):=by
 intro c_ s Z H x xs v us Q I rx r h
 obtain⟨z,l,ys,rfl,rfl,hl,hz,q⟩:=h
 obtain⟨u,rfl,ru⟩:=vals1 r
 cases ru
 obtain⟨t,rfl⟩:=rx
 obtain⟨gU,rv,p,_⟩:=I.list hl
 exact join_list p.isList (by simpa using zz rv) hz λt' k=>⟨.str _,H,I.tok k,⟨t',rfl⟩,q⟩
end
inductive lY(K:Qqy)(H:Hp):Nat->V->V->Bool->Prop
 | flat {n x y} (fx:lF x=true) (fy:lF y=true):lY K H n x y (G6 x y)
 | lists {n a c xs ys} {e:Nat->Bool} (h1:gO K H a xs) (h2:gO K H c ys) (hl:xs.length=ys.length) (he:∀(j:Nat) u v,xs[j]?=some u->ys[j]?=some v->lY K H n u v (e j)):lY K H (n+1) (.ref a) (.ref c) ((List.range xs.length).all e)
 | Mm {n a c xs ys} (h1:gO K H a xs) (h2:gO K H c ys) (hl:xs.length≠ys.length):lY K H n (.ref a) (.ref c) false
 | pN {n a c xs ys} {e:Nat->Bool} (h1:pf K H a xs) (h2:pf K H c ys) (he:∀(j:Nat) u v,xs[j]?=some u->ys[j]?=some v->lY K H n u v (e j)):lY K H (n+1) (.ref a) (.ref c) ((List.range (min xs.length ys.length)).all e&&xs.length ==ys.length)
 | wR {n a xs y} (h1:gO K H a xs) (fy:lF y=true):lY K H n (.ref a) y false
 | wU {n a xs y} (h1:gO K H a xs) (fy:lF y=true):lY K H n y (.ref a) false
 | zA {n a xs y} (h1:pf K H a xs) (fy:lF y=true):lY K H n (.ref a) y false
 | zB {n a xs y} (h1:pf K H a xs) (fy:lF y=true):lY K H n y (.ref a) false
 | zC {n a c xs ys} (h1:gO K H a xs) (h2:pf K H c ys):lY K H n (.ref a) (.ref c) false
 | zD {n a c xs ys} (h1:pf K H a xs) (h2:gO K H c ys):lY K H n (.ref a) (.ref c) false
theorem JR:∀{x:V},lF x=true->G6 x x=true:=by
 intro x h
 cases x<;>simp[lF,G6] at *
section
variable{X:Cx}{c_:Qqz}{Z:St}{H:Hp}{s:Shared}
theorem Inv.NQ{a c:Addr}{xs ys:List V}(I:Inv X c_ Z H s)(h1:gO X.K H a xs)(h2:pf X.K H c ys):a≠c:=by
 obtain⟨gU,_,p,_⟩:=I.list h1
 obtain⟨lW,_,p2,_⟩:=I.tuple h2
 exact SeqAt.ne_of_list_tuple p.isList (show s.heap.IsTuple c lW.toArray from p2)
theorem lY.self{n:Nat}{x y:V}{b:Bool}(I:Inv X c_ Z H s)(h:lY X.K H n x y b):x=y->b=true:=by
 induction h with
 | flat fx fy=>intro e;subst e;exact JR fx
 | lists h1 h2 hl he ih=>
  intro e
  cases e
  have:=I.pP h1 h2
  subst this
  refine abq.mpr λj hj=>?_
  have hj:=abf.mp hj
  exact ih j _ _ (TH hj) (TH hj) rfl
 | Mm h1 h2 hl=>intro e;cases e;exact absurd (aaQ List.length (I.pP h1 h2)) hl
 | pN h1 h2 he ih=>
  intro e
  cases e
  have:=I.HR h1 h2
  subst this
  rw[aa8]
  refine⟨abq.mpr λj hj=>?_,by simp⟩
  have hj:=abf.mp hj
  rw[Nat.min_self] at hj
  exact ih j _ _ (TH hj) (TH hj) rfl
 | wR h1 fy=>intro e;subst e;exact absurd (show false=true from fy) aae
 | wU h1 fy=>intro e;subst e;exact absurd (show false=true from fy) aae
 | zA h1 fy=>intro e;subst e;exact absurd (show false=true from fy) aae
 | zB h1 fy=>intro e;subst e;exact absurd (show false=true from fy) aae
 | zC h1 h2=>intro e;cases e;exact absurd rfl (I.NQ h1 h2)
 | zD h1 h2=>intro e;cases e;exact absurd rfl (I.NQ h2 h1)
theorem qt{y:V}{v:Value}(r:RelV y v)(f:lF y=true):v=.none\/(∃b,v=.bool b)\/(∃i t,v=.int i t)\/∃x t,v=.str x t:=by
 cases y with
 | jg=>exact .inl r
 | bl b=>exact .inr (.inl ⟨b,r⟩)
 | int i=>obtain⟨t,e⟩:=r;exact .inr (.inr (.inl ⟨i,t,e⟩))
 | str x=>obtain⟨t,e⟩:=r;exact .inr (.inr (.inr ⟨x,t,e⟩))
 | _=>exact absurd (show false=true from f) aae
theorem oJ{xs:List V}{gU:List Value}(rv:Vals xs gU){j:Nat}(h:j<gU.toArray.size):∃x,xs[j]?=some x/\RelV x gU.toArray[j]:=by
 have hl:=rv.length
 have hj:j<gU.length:=by simpa using h
 have hx:j<xs.length:=by omega
 obtain⟨u,hu,ru⟩:=rv.get (TH hx)
 refine⟨xs[j],TH hx,?_⟩
 rw[TH hj] at hu
 cases hu
 simpa using ru
theorem lY.at{n:Nat}{x y:V}{b:Bool}(I:Inv X c_ Z H s)(h:lY X.K H n x y b):∀(A:Around)(u v:Value),RelV x u->RelV y v->A.units+n<cLine->SeqAt.EqAt A s u v b:=by
 induction h with
 | flat fx fy=>intro A u v ru rv _;exact JF ru rv fx fy
 | @lists n a c xs ys e h1 h2 hl he ih=>
  intro A u v ru rv hu
  cases ru;cases rv
  by_cases Qt:a=c
  ·subst Qt
   have hb:=lY.self I (lY.lists h1 h2 hl he) rfl
   rw[hb]
   exact SeqAt.EqAt.same _
  ·obtain⟨gU,r1,p1,_⟩:=I.list h1
   obtain⟨lW,r2,p2,_⟩:=I.list h2
   have l1:=r1.length
   have l2:=r2.length
   refine SeqAt.EqAt.of_refs Qt ?_
   have q:=SeqAt.RcAt.lists (A:=A) (e:=e) p1.isList p2.isList (by simp;omega) (by omega) λj g1 g2=>by
    obtain⟨x,ex,rx⟩:=oJ r1 g1
    obtain⟨y,ey,ry⟩:=oJ r2 g2
    exact ih j x y ex ey A.in1 _ _ rx ry (by show A.units+1+n<cLine;omega)
   rw[aag,<-l1] at q
   exact q
 | @Mm n a c xs ys h1 h2 hl=>
  intro A u v ru rv hu
  cases ru;cases rv
  obtain⟨gU,r1,p1,_⟩:=I.list h1
  obtain⟨lW,r2,p2,_⟩:=I.list h2
  have l1:=r1.length
  have l2:=r2.length
  refine SeqAt.EqAt.of_refs (λe=>?_) (SeqAt.RcAt.lists_lengths p1.isList p2.isList (by simp;omega) (by omega))
  subst e
  exact hl (aaQ List.length (I.pP h1 h2))
 | @pN n a c xs ys e h1 h2 he ih=>
  intro A u v ru rv hu
  cases ru;cases rv
  by_cases Qt:a=c
  ·subst Qt
   have hb:=lY.self I (lY.pN h1 h2 he) rfl
   rw[hb]
   exact SeqAt.EqAt.same _
  ·obtain⟨gU,r1,p1,_⟩:=I.tuple h1
   obtain⟨lW,r2,p2,_⟩:=I.tuple h2
   have l1:=r1.length
   have l2:=r2.length
   refine SeqAt.EqAt.of_refs Qt ?_
   have q:=SeqAt.RcAt.tuples (A:=A) (e:=e) (show s.heap.IsTuple a gU.toArray from p1) (show s.heap.IsTuple c lW.toArray from p2) (by omega) λj g1 g2=>by
    obtain⟨x,ex,rx⟩:=oJ r1 g1
    obtain⟨y,ey,ry⟩:=oJ r2 g2
    exact ih j x y ex ey A.in1 _ _ rx ry (by show A.units+1+n<cLine;omega)
   rw[aag,aag,<-l1,<-l2] at q
   exact q
 | @wR n a xs y h1 fy=>
  intro A u v ru rv hu
  cases ru
  obtain⟨gU,r1,p1,_⟩:=I.list h1
  rcases qt rv fy with rfl|⟨b,rfl⟩|⟨i,t,rfl⟩|⟨x,t,rfl⟩
  ·exact .list_none p1.isList (by omega)
  ·exact .list_bool b p1.isList (by omega)
  ·exact .list_int i t p1.isList (by omega)
  ·exact .list_str x t p1.isList (by omega)
 | @wU n a xs y h1 fy=>
  intro A u v ru rv hu
  cases rv
  obtain⟨gU,r1,p1,_⟩:=I.list h1
  rcases qt ru fy with rfl|⟨b,rfl⟩|⟨i,t,rfl⟩|⟨x,t,rfl⟩
  ·exact .none_list p1.isList (by omega)
  ·exact .bool_list b p1.isList (by omega)
  ·exact .int_list i t p1.isList (by omega)
  ·exact .str_list x t p1.isList (by omega)
 | @zA n a xs y h1 fy=>
  intro A u v ru rv hu
  cases ru
  obtain⟨gU,r1,p1,_⟩:=I.tuple h1
  have p1:s.heap.IsTuple a gU.toArray:=p1
  rcases qt rv fy with rfl|⟨b,rfl⟩|⟨i,t,rfl⟩|⟨x,t,rfl⟩
  ·exact .tuple_none p1 (by omega)
  ·exact .tuple_bool b p1 (by omega)
  ·exact .tuple_int i t p1 (by omega)
  ·exact .tuple_str x t p1 (by omega)
 | @zB n a xs y h1 fy=>
  intro A u v ru rv hu
  cases rv
  obtain⟨gU,r1,p1,_⟩:=I.tuple h1
  have p1:s.heap.IsTuple a gU.toArray:=p1
  rcases qt ru fy with rfl|⟨b,rfl⟩|⟨i,t,rfl⟩|⟨x,t,rfl⟩
  ·exact .none_tuple p1 (by omega)
  ·exact .bool_tuple b p1 (by omega)
  ·exact .int_tuple i t p1 (by omega)
  ·exact .str_tuple x t p1 (by omega)
 | @zC n a c xs ys h1 h2=>
  intro A u v ru rv hu
  cases ru;cases rv
  obtain⟨gU,r1,p1,_⟩:=I.list h1
  obtain⟨lW,r2,p2,_⟩:=I.tuple h2
  exact .list_tuple p1.isList (show s.heap.IsTuple c lW.toArray from p2) (by omega)
 | @zD n a c xs ys h1 h2=>
  intro A u v ru rv hu
  cases ru;cases rv
  obtain⟨gU,r1,p1,_⟩:=I.tuple h1
  obtain⟨lW,r2,p2,_⟩:=I.list h2
  exact .tuple_list (show s.heap.IsTuple a gU.toArray from p1) p2.isList (by omega)
def O0(x y:V):Prop:=∃a c,x=.ref a/\y=.ref c
theorem lY.rc{n:Nat}{x y:V}{b:Bool}{A:Around}{u v:Value}(I:Inv X c_ Z H s)(h:lY X.K H n x y b)(sq:O0 x y)(ru:RelV x u)(rv:RelV y v)(hu:A.units+n+1<cLine):SeqAt.RcAt A s u v b/\SeqAt.RcNeAt A s u v (!b):=by
 obtain⟨a0,c0,rfl,rfl⟩:=sq
 cases ru;cases rv
 cases h with
 | flat fx fy=>exact absurd (show false=true from fx) aae
 | @lists n a c xs ys e h1 h2 hl he=>
  obtain⟨gU,r1,p1,_⟩:=I.list h1
  obtain⟨lW,r2,p2,_⟩:=I.list h2
  have l1:=r1.length
  have l2:=r2.length
  have el:∀j (g1:j<gU.toArray.size) (g2:j<lW.toArray.size),SeqAt.EqAt A.in1 s gU.toArray[j] lW.toArray[j] (e j):=λj g1 g2=>by
   obtain⟨x,ex,rx⟩:=oJ r1 g1
   obtain⟨y,ey,ry⟩:=oJ r2 g2
   exact(he j x y ex ey).at I A.in1 _ _ rx ry (by show A.units+1+n<cLine;omega)
  have q:=SeqAt.RcAt.lists (A:=A) (e:=e) p1.isList p2.isList (by simp;omega) (by omega) el
  have q':=SeqAt.RcNeAt.lists (A:=A) (e:=e) p1.isList p2.isList (by simp;omega) (by omega) el
  rw[aag,<-l1] at q q'
  exact⟨q,q'⟩
 | @Mm n a c xs ys h1 h2 hl=>
  obtain⟨gU,r1,p1,_⟩:=I.list h1
  obtain⟨lW,r2,p2,_⟩:=I.list h2
  have l1:=r1.length
  have l2:=r2.length
  exact⟨SeqAt.RcAt.lists_lengths p1.isList p2.isList (by simp;omega) (by omega),SeqAt.RcNeAt.lists_lengths p1.isList p2.isList (by simp;omega) (by omega)⟩
 | @pN n a c xs ys e h1 h2 he=>
  obtain⟨gU,r1,p1,_⟩:=I.tuple h1
  obtain⟨lW,r2,p2,_⟩:=I.tuple h2
  have l1:=r1.length
  have l2:=r2.length
  have el:∀j (g1:j<gU.toArray.size) (g2:j<lW.toArray.size),SeqAt.EqAt A.in1 s gU.toArray[j] lW.toArray[j] (e j):=λj g1 g2=>by
   obtain⟨x,ex,rx⟩:=oJ r1 g1
   obtain⟨y,ey,ry⟩:=oJ r2 g2
   exact(he j x y ex ey).at I A.in1 _ _ rx ry (by show A.units+1+n<cLine;omega)
  have q:=SeqAt.RcAt.tuples (A:=A) (e:=e) (show s.heap.IsTuple a0 gU.toArray from p1) (show s.heap.IsTuple c0 lW.toArray from p2) (by omega) el
  have q':=SeqAt.RcNeAt.tuples (A:=A) (e:=e) (show s.heap.IsTuple a0 gU.toArray from p1) (show s.heap.IsTuple c0 lW.toArray from p2) (by omega) el
  rw[aag,aag,<-l1,<-l2] at q q'
  exact⟨q,q'⟩
 | wR h1 fy=>exact absurd (show false=true from fy) aae
 | wU h1 fy=>exact absurd (show false=true from fy) aae
 | zA h1 fy=>exact absurd (show false=true from fy) aae
 | zB h1 fy=>exact absurd (show false=true from fy) aae
 | @zC n a c xs ys h1 h2=>
  obtain⟨gU,r1,p1,_⟩:=I.list h1
  obtain⟨lW,r2,p2,_⟩:=I.tuple h2
  exact⟨.list_tuple p1.isList (show s.heap.IsTuple c0 lW.toArray from p2) (by omega),.list_tuple p1.isList (show s.heap.IsTuple c0 lW.toArray from p2) (by omega)⟩
 | @zD n a c xs ys h1 h2=>
  obtain⟨gU,r1,p1,_⟩:=I.tuple h1
  obtain⟨lW,r2,p2,_⟩:=I.list h2
  exact⟨.tuple_list (show s.heap.IsTuple a0 gU.toArray from p1) p2.isList (by omega),.tuple_list (show s.heap.IsTuple a0 gU.toArray from p1) p2.isList (by omega)⟩
end
section
variable{X:Cx}
def WM(K:Qqy)(n:Nat):R2:=λx y H Q=>∃b,O0 x y/\lY K H n x y b/\Q (.bl b) H
def WN(K:Qqy)(n:Nat):R2:=λx y H Q=>∃b,O0 x y/\lY K H n x y b/\Q (.bl (!b)) H
theorem O1(n:Nat)(hu:X.A.units+n+1<cLine):wC X (compareOp .Eq) (WM X.K n):=by
 intro c_ s Z H x y u v Q I rx ry h
 obtain⟨b,sq,e,q⟩:=h
 exact(e.rc I sq rx ry hu).1 X.prog X.w X.xe _ ⟨.bl b,H,I,rfl,q⟩
theorem O2(n:Nat)(hu:X.A.units+n+1<cLine):wC X (compareOp .NotEq) (WN X.K n):=by
 intro c_ s Z H x y u v Q I rx ry h
 obtain⟨b,sq,e,q⟩:=h
 exact(e.rc I sq rx ry hu).2 X.prog X.w X.xe _ ⟨.bl (!b),H,I,rfl,q⟩
end
theorem lY.Mo{K:Qqy}{H:Hp}{n:Nat}{Y:Type}[DecidableEq Y]{F:Y->V->Prop}(hF:∀p q u v,F p u->F q v->lY K H n u v (decide (p=q))){a c:Addr}{xs ys:List V}{ps qs:List Y}
  (h1:gO K H a xs) (h2:gO K H c ys) (r1:Paired F ps xs) (r2:Paired F qs ys):lY K H (n+1) (.ref a) (.ref c) (decide (ps=qs)):=by
 have l1:=r1.length
 have l2:=r2.length
 have Tr:∀{ps:List Y} {xs:List V},Paired F ps xs->∀(j:Nat) u,xs[j]?=some u->∃p,ps[j]?=some p/\F p u:=by
  intro ps xs r
  induction r with
  | nil=>intro j u h;simp at h
  | cons f t ih=>
   intro j u h
   cases j with
   | zero=>simp at h;subst h;exact⟨_,rfl,f⟩
   | succ j=>simpa using ih j u (by simpa using h)
 by_cases hl:xs.length=ys.length
 ·have e:lY K H (n+1) (.ref a) (.ref c) ((List.range xs.length).all λj=>decide (ps[j]?=qs[j]?)):=.lists h1 h2 hl λj u v hu hv=>by
   obtain⟨p,ep,fp⟩:=Tr r1 j u hu
   obtain⟨q,eq,fq⟩:=Tr r2 j v hv
   have:=hF p q u v fp fq
   rw[ep,eq]
   have e:decide (some p=some q)=decide (p=q):=by simp
   rw[e]
   exact this
  have e2:((List.range xs.length).all λj=>decide (ps[j]?=qs[j]?))=decide (ps=qs):=by
   by_cases h:ps=qs
   ·subst h;simp
   ·rw[ZW h,abG]
    intro z
    refine h (List.ext_getElem? λj=>?_)
    by_cases hj:j<xs.length
    ·simpa using abq.mp z j (abf.mpr hj)
    ·rw[List.getElem?_eq_none_iff.mpr (by omega),List.getElem?_eq_none_iff.mpr (by omega)]
  rw[<-e2]
  exact e
 ·rw[ZW λz=>hl (by rw[<-l1,<-l2,z])]
  exact .Mm h1 h2 hl
theorem lY.Cy{K:Qqy}{H:Hp}{n:Nat}(p q:Str):lY K H n (.str p) (.str q) (decide (p=q)):=by
 have:G6 (.str p) (.str q)=decide (p=q):=(Bool.beq_eq_decide_eq p q)
 rw[<-this]
 exact .flat rfl rfl
theorem lY.Cz{K:Qqy}{H:Hp}{n:Nat}(p q:Int):lY K H n (.int p) (.int q) (decide (p=q)):=by
 have:G6 (.int p) (.int q)=decide (p=q):=(Bool.beq_eq_decide_eq p q)
 rw[<-this]
 exact .flat rfl rfl
structure Se(P:Program)(w:World)(outer:List Env)(H H':Hp)(s s':Shared)(e C:Addr):Prop where
 os:s'.os=s.os
 bare:AllBare s'.gens
 un:Un (uu outer) [] H H' s.heap s'.heap
 iM:rD P w H' s'.heap
 fl:∃B t,Heap.FlyingW B outer e (.ref C) (.ref t) s'.heap/\∀b o,s'.heap.get? b=some o->b∉uu outer->((∃u,H' b=some u)\/∃o',s.heap.get? b=some o')->B.get? b=some o
 new:s.heap.get? e=none
 free:H' e=none
def tX(P:Program)(w:World):G0:=λouter H s E ev s'=>∃e C H',ev=.ref e/\Se P w outer H H' s s' e C/\E (.ref C) none H'
theorem i7.ex{P:Program}{w:World}{H:Hp}{h:Heap}{a:Addr}{o:HO}(x:i7 P w H h a o):∃ob,h.get? a=some ob:=by
 cases o with
 | lst xs=>obtain⟨_,_,_,_,e⟩:=x;exact⟨_,e⟩
 | tup xs=>obtain⟨_,_,_,o,e,_⟩:=x;exact⟨_,e⟩
 | dK kvs=>obtain⟨_,_,_,_,o,_,_,e,_⟩:=x;exact⟨_,e⟩
 | dT kvs=>obtain⟨_,_,_,_,o,_,_,e,_⟩:=x;exact⟨_,e⟩
 | set S n=>obtain⟨o,_,_,_,e,_⟩:=x;exact⟨_,e⟩
 | ins C dx fs=>obtain⟨_,_,_,e,_⟩:=x;exact⟨_,e⟩
 | own y=>obtain⟨_,e⟩:=x;exact⟨_,e⟩
 | xd fs=>obtain⟨_,⟨_,_,_,e,_⟩,_⟩:=x;exact⟨_,e⟩
 | U5 lo hi=>obtain⟨_,_,_,e⟩:=x;exact⟨_,e⟩
 | nB ob u=>obtain⟨e,_⟩:=x;exact⟨_,e⟩
 | LL ps=>exact⟨_,(show h.get? a=some _ from x)⟩
 | met f y=>exact⟨_,(show h.get? a=some _ from x)⟩
 | ext Z=>obtain⟨_,⟨_,e⟩,_⟩:=x;exact⟨_,e⟩
section
variable{X:Cx}{c_:Qqz}{Z:St}{H H':Hp}{s s':Shared}{e C:Addr}{M:Model}{E:Qqq}
structure Bd(X:Cx):Prop where
 stack:X.stack=X.env::X.outer
 frame:X.env.frame=some X.env.locals
 ex:X.ex=[]
theorem Inv.L3(I:Inv X c_ Z H s){b:Addr}{o:Obj}(h:X.s₀.heap.get? b=some o)(nf:b∉X.fs):b∉uu X.stack:=λhb=>by
 rcases XH.mp (I.wF b hb) with z|z
 ·rw[z] at h
  exact absurd (aaB (aas h) I.ok.above) (abi _)
 ·exact nf z
theorem JS(I:Inv X c_ Z H s)(bd:Bd X)(un:Un (uu X.stack) [] H H' s.heap s'.heap)(hos:s'.os=s.os)(Ts:AllBare s'.gens)(iM:rD X.prog X.w H' s'.heap){B Qu:Heap}{t:Addr}
  (hB:∀b o,s'.heap.get? b=some o->b∉uu X.stack->((∃u,H' b=some u)\/∃o',s.heap.get? b=some o')->B.get? b=some o)
  (hF:s'.heap.FunFrames B X.stack) (tQ:Heap.FlyingW B X.outer e (.ref C) (.ref t) Qu) (up:s'.heap.UpToSlots Qu) (new:s.heap.get? e=none) (Xt:H' e=none) :
  Se X.prog X.w X.outer X.H₀ H' X.s₀ {s' with heap:=Qu} e C:=by
 have hex:=bd.ex
 have Tt:∀b∈uu X.stack,H' b=none:=λb hb=>by
  obtain⟨_,o,ho,_⟩:=I.stack.mem hb
  exact un.free b o ho (I.Cg b hb) (by simp)
 have N8:∀b u,H' b=some u->b∉uu X.stack:=λb u hu hb=>by rw[Tt b hb] at hu;cases hu
 have Cc:∀b o u,s'.heap.get? b=some o->H' b=some u->Qu.get? b=some o:=λb o u ho hu=>
  tQ.1 b o (hB b o ho (N8 b u hu) (.inl ⟨u,hu⟩))
 have tP:∀b,b∉X.ex:=λb z=>by rw[hex] at z;cases z
 have outS:∀b,b∈uu X.outer->b∈uu X.stack:=λb hb=>by
  rw[bd.stack];unfold uu;rw[abt,bd.frame];exact aaa _ hb
 refine⟨hos.trans I.os,Ts,⟨λb o q n hb hx=>?_,λb o q n hb hx=>?_,λb o q n hx=>?_,λb o q hx=>?_,λb xs q=>un.pN b xs (I.base.pN b xs q),λb o u q=>un.uZ b o u (I.base.uZ b o u q),λb ps q=>?_⟩,λa u ha=>?_,⟨B,t,tQ,λb o hb nb hc=>?_⟩,?_,Xt⟩
 ·have q1:=I.base.keep b o q n hb (tP b)
  have nf:=I.L3 q hb
  exact tQ.1 b o (hB b o (un.keep b o q1 (I.base.free b o q n (tP b)) nf (by simp)) nf (.inr ⟨o,q1⟩))
 ·obtain⟨sl,q1⟩:=I.base.slot b o q n hb (tP b)
  obtain⟨JT,q2⟩:=un.any q1 (I.base.free b o q n (tP b)) (by simp)
  obtain⟨_,o',pI,hd⟩:=I.ok.u0.mem hb
  rw[q] at pI;cases pI
  obtain⟨Ep,q3⟩:=up b _ q2 hd
  exact⟨Ep,q3⟩
 ·obtain⟨o',q1⟩:=I.base.there b o q (tP b)
  exact un.free b o' q1 (I.base.free b o q n (tP b)) (by simp)
 ·obtain⟨o1,q1⟩:=I.base.there b o q (tP b)
  obtain⟨o2,q2⟩:=un.there b o1 q1 (by simp)
  by_cases hb:b∈uu X.stack
  ·obtain⟨_,o',pI,hd⟩:=hF.mem hb
   rw[q2] at pI;cases pI
   obtain⟨Ep,q3⟩:=up b _ q2 hd
   exact⟨_,q3⟩
  ·exact⟨o2,tQ.1 b o2 (hB b o2 q2 hb (.inr ⟨o1,q1⟩))⟩
 ·obtain⟨m1,e1⟩:=I.base.yL b ps q
  obtain⟨m2,e2⟩:=un.yL b _ e1
  exact⟨m1++m2,by rw[e2,Array.append_assoc]⟩
 ·refine(iM a u ha).zi (λb v hb q=>?_) (λ_ z=>z) λ_ _ z=>z
  rcases hb with z|z
  ·rw[z] at q ⊢;exact Cc a v u q ha
  ·exact Cc b v _ q z
 ·have all:∀o1,s'.heap.get? b=some o1->b∉uu X.stack->((∃u,H' b=some u)\/∃o',s.heap.get? b=some o')->B.get? b=some o:=λo1 q1 nf c=>by
   have z:=hB b o1 q1 nf c
   have z2:=tQ.1 b o1 z
   have hb:Qu.get? b=some o:=hb
   rw[hb] at z2;cases z2
   exact z
  rcases hc with⟨u,hu⟩|⟨o',pI⟩
  ·obtain⟨o1,q1⟩:=(iM b u hu).ex
   exact all o1 q1 (N8 b u hu) (.inl ⟨u,hu⟩)
  ·obtain⟨o1,q1⟩:=I.base.there b o' pI (tP b)
   obtain⟨o2,q2⟩:=un.there b o1 q1 (by simp)
   exact all o2 q2 (I.L3 pI nb) (.inr ⟨o1,q1⟩)
 ·cases q:X.s₀.heap.get? e with
  | none=>rfl
  | some o=>
   obtain⟨o1,q1⟩:=I.base.there e o q (tP e)
   rw[new] at q1;cases q1
theorem JU(I:Inv X c_ Z H s)(bd:Bd X)(F:Se X.prog X.w X.stack H H' s s' e C) :
  wpAny M X.A (leaving X.env (.ref e)) (λ_ Jg=>Se X.prog X.w X.outer X.H₀ H' X.s₀ Jg e C) E s':=by
 obtain⟨B,t,fl,hB⟩:=F.fl
 have fl':=fl
 rw[bd.stack] at fl'
 refine wpAny_leaves_onW (by rw[I.ok.frames,bd.stack]) bd.frame fl' λQu tQ up=>?_
 exact JS I bd F.un F.os F.bare F.iM hB fl.2.2.1 tQ up F.new F.free
theorem FQ{vs:List Value}{h':Heap}(I:Inv X c_ Z H s)(bd:Bd X)(hx:Heap.MadeExcOf s.heap h' e (.ref C) vs) :
  wpAny M X.A (leaving X.env (.ref e)) (λ_ Jg=>Se X.prog X.w X.outer X.H₀ H X.s₀ Jg e C) E {s with heap:=h'}:=by
 have N9:∀env∈X.stack,∀b,env.frame=some b->b∈uu X.stack:=λenv he b hb=>ab3.mpr ⟨env,he,hb⟩
 have hF:=W.funFrames_hide I.stack N9
 have Xt:H e=none:=by
  cases q:H e with
  | none=>rfl
  | some u=>
   obtain⟨o,ho⟩:=(I.iM e u q).ex
   rw[hx.new] at ho;cases ho
 have un:Un (uu X.stack) [] H H s.heap h':=Un.kept hx.keeps
 have hB:∀b o,h'.get? b=some o->b∉uu X.stack->((∃u,H b=some u)\/∃o',s.heap.get? b=some o')->(W.hideAll s.heap (uu X.stack)).get? b=some o:=λb o hb nf c=>by
  have:∃o',s.heap.get? b=some o':=by
   rcases c with⟨u,hu⟩|c
   ·exact(I.iM b u hu).ex
   ·exact c
  obtain⟨o',pI⟩:=this
  have z:=hx.keeps b o' pI
  rw[hb] at z;cases z
  exact W.hideAll_get _ pI nf
 have hF2:h'.FunFrames (W.hideAll s.heap (uu X.stack)) X.stack:=hF.of_keeps λb o ho _=>⟨o,hx.keeps b o ho,rfl⟩
 refine wpAny_leaves_madeW (base:=W.hideAll s.heap (uu X.stack)) (h:=s.heap) (by rw[I.ok.frames,bd.stack]) bd.frame (λb o q=>W.of_hideAll _ q) (by rw[<-bd.stack];exact hF) hx λQu t tQ tup nt up=>?_
 exact JS (s':={s with heap:=h'}) I bd un rfl I.bare (I.iM.kept hx.keeps) hB hF2 tQ up hx.new Xt
structure Bx(X:Cx)(E:XK):Prop where
 bd:Bd X
 calm:X.calm=true
 xe:∀ev s',wpAny (model X.prog X.w) X.A (leaving X.env ev) (λ_ Jg=>tX X.prog X.w X.outer X.H₀ X.s₀ E ev Jg) (λe' Jg=>tX X.prog X.w X.outer X.H₀ X.s₀ E e' Jg) s'->X.xe ev s'
theorem bx{P:Program}{w:World}{K:Qqy}{mg:Qqx}{base:Heap}{N:List Str}{qual:Str}{scope:Scope}{f:Addr}{cd:Value}{A:Around}{outer:List Env}{s:Shared}{H:Hp}{E:XK} :
 Bx (wL (tX P w) P w K mg base N qual scope f cd A outer s H E) E:=⟨⟨rfl,rfl,rfl⟩,rfl,λ_ _ h=>h⟩
theorem NR{EX:XK}(b:Bx X EX):Passes (tX X.prog X.w) X EX:=λc_ Z H s ev s' I ⟨e,C,H',he,F,q⟩=>by
 subst he
 exact b.xe _ _ (i8 (JU I b.bd F) λ_ Jg F'=>⟨e,C,H',rfl,F',q⟩)
theorem JV{P:Program}{w:World}{K:Qqy}{mg:Qqx}{base:Heap}{N:List Str}{qual:Str}{scope:Scope}{f:Addr}{cd:Value}{A:Around}{outer:List Env}{s:Shared}{H:Hp}{E:XK} :
 PassesOwn (model P w) (wL (tX P w) P w K mg base N qual scope f cd A outer s H E).A (wL (tX P w) P w K mg base N qual scope f cd A outer s H E).env (wL (tX P w) P w K mg base N qual scope f cd A outer s H E).xe:=PassesOwn.leaving
structure Exc(K:Qqy)(mg:Qqx)(x:Str)(C:Addr):Prop where
 m:mg x=some (.ref C)
 q:W.excIn K C [.type "ValueError",.type "Exception",.type "BaseException",.type "object"] "ValueError.__new__"=true
def O3(C:Addr)(EX:XK)(ta:TE):TS:=λ_ Z H=>ta Z H λ_ H1=>EX (.ref C) none H1
theorem Mp{K:Qqy}{h:Heap}{C:Addr}{bmB:List Value}{newId:String}(X:K.In h)(q:W.excIn K C bmB newId=true):∃bm N nm q bs hdct sn sub ab col dd k0 k1 k2 k3 k5 mN,h.get? C=some (excClassObj nm q C N bs bm hdct sn sub ab col dd k0 k1 k2 k3 k5 newId)/\h.Ns N mN/\mN "__init__"=none/\OwnTail h bmB bm:=by
 unfold W.excIn at q
 split at q
 ·rename_i dd cd sl ho
  split at q
  ·rename_i C' bm k0 k1 k2 k3 n k5 hm hs
   simp only [aa8,abS,Bool.not_eq_true'] at q
   obtain⟨⟨⟨⟨⟨rfl,rfl⟩,Tu⟩,ht⟩,iM⟩,Vn⟩:=q
   obtain⟨nm,bs,mro,ns,qn,hd,sn,sub,ab,col,del⟩:=cd
   dsimp only at hm Tu iM Vn
   subst hm Tu
   have Vo:sl=#[k0,k1,k2,k3,some (.builtin n),k5]:=by
    obtain⟨l⟩:=sl
    simp only at hs
    rw[hs]
   subst Vo
   exact⟨bm,ns,nm,qn,bs,hd,sn,sub,ab,col,dd,k0,k1,k2,k3,k5,_,X _ _ ho,.of_isNs (W.isNs_of_in X iM),W.nsMap_none_of_in X iM Vn,W.tail_of_in X ht⟩
  ·cases q
 ·cases q
theorem ke{EX:XK}{x:Str}{a:Expr}{ta:TE}{np kZ pos:Pos}(b:Bx X EX)(O:Exc X.K X.mg x C)(hg:Gl X x)(ha:PE X a ta)
  (GA:(x ==("__debug__":Str))=false:=by decide) (hs:starEach [a] X.env=[(false,eval a X.env)]:=by rfl):PS X (.Raise (some (.Call (.Name x np) [a] [] kZ)) none pos) (O3 C EX ta):=by
 intro c_ s Z H D I h
 obtain⟨bm,N,nm,q,bs,hdct,sn,sub,ab,col,dd,k0,k1,k2,k3,k5,mN,hC,hN,Vn,T⟩:=Mp I.ok.mod.Q3 O.q
 refine wpAny_Raise_call_subT (C:=C) (nm:=nm) (q:=q) (N:=N) (bs:=bs) (bm:=bm) (hdct:=hdct) (sn:=sn) (sub:=sub) (ab:=ab) (col:=col) (dd:=dd) (k0:=k0) (k1:=k1) (k2:=k2) (k3:=k3) (k5:=k5)
  PySem.F.excBase_ValueError (mN:=mN) (T.hasType (by decide)) (I.ok.hd b.calm) (by rw[hs];rfl) Vn (u9 I hg O.m ⟨rfl,?_⟩ GA)
 rw[hs]
 refine abp ?_
 refine abb (i8 (ha c_ s Z H _ I h) λu s1 iJ=>?_)
 obtain⟨y,H1,I1,r1,q1⟩:=iJ
 refine abv ?_
 have hk:=I1.bk
 refine⟨rfl,by show 1<=sizeLine;decide,hk _ _ hC,hN.keeps hk,T.keeps hk,λh' e hm=>?_⟩
 exact b.xe _ _ (i8 (FQ I1 b.bd hm) λ_ Jg F=>⟨e,C,H1,rfl,F,q1⟩)
end
section
variable{P:Program}{w:World}{K:Qqy}{mg:Qqx}{base:Heap}
theorem xR.ok1{x qual:Str}{st:Stmt}{f:Addr}{fd:FuncData}{N ps:List Str}{k:Nat}{sp:Sp}(F:xR K x qual st f fd)(S:gH N ps (gr st))(len:∀vs H Q E,sp vs H Q E->vs.length=ps.length)
  (wq:∀(jt:Value)(A:Around)(outer:List Env)(s:Shared)(H:Hp)(vs:List V)(Q:VK)(E:XK),kI k (A.deeper (envOfC qual (gr st) s.heap.objs.size f jt))->sp vs H Q E->
   ∃t,Fw (wL (tX P w) P w K mg base N qual (gr st) f jt A outer s H E) (lh st) t/\t {nx:=λ_ H'=>Q .jg H',rt:=Q} (start N vs) H):il P w K mg base (tX P w) (k+1) f fd ps sp:=by
 obtain⟨oc,od,kV,doc,pm,an,jt,ct,Jn,rfl,lk,Cb⟩:=F.ex
 exact NN lk Cb S len λA outer s H vs Q E hr LP=>wq jt A outer s H vs Q E hr LP
theorem il.Ij{k:Nat}{f:Addr}{fd:FuncData}{ps:List Str}{sp:Sp}(F:il P w K mg base (tX P w) k f fd ps sp):il P w K mg base mD k f fd ps (λvs H Q _=>sp vs H Q E0):=
 ⟨λvs H Q E h=>F.len vs H Q E0 h,λA outer s H args us vs Q E hr e0 hb hv hs=>codeAny_mono (F.run A outer s H args us vs Q E0 hr e0 hb hv hs) λr s' h=>by
  cases r with
  | error e=>obtain⟨_,_,_,_,_,z⟩:=h;exact z
  | ok fl=>cases fl<;>exact h⟩
end
section
variable{X:Cx}
def PF(X:Cx)(k:Nat)(es:List Expr)(t:TE):Prop:=
 ∀(acc:Str)(c_:Qqz)(s:Shared)(Z:St)(H:Hp)(Q:VK),acc.length<=k*1048576->Inv X c_ Z H s->t Z H Q->wpAny (model X.prog X.w) X.A (joinParts acc (evalEach es X.env)) (EP X c_ Z Q) X.xe s
def tFn:TE:=λ_ H Q=>∀x,Q (.str x) H
def tFc(te t:TE):TE:=λZ H Q=>te Z H λv H1=>∃y,v=.str y/\y.length<=1048576/\t Z H1 Q
theorem nX{k:Nat}(hk:k<=8:=by decide):PF X k [] tFn:=λacc c_ s Z H Q hl I h=>
 joinParts_nil (hsz:=by have:sizeLine=16777216:=rfl;omega) ⟨.str acc,H,I.tok _,⟨_,rfl⟩,h acc⟩
theorem iw{k:Nat}{e:Expr}{es:List Expr}{te t:TE}(he:PE X e te)(hr:PF X (k+1) es t)(hk:k<=7:=by decide)(hs:evalEach (e::es) X.env=eval e X.env::evalEach es X.env:=by rfl):PF X k (e::es) (tFc te t):=by
 intro acc c_ s Z H Q hl I h
 rw[hs]
 refine joinParts_cons (i8 (he c_ s Z H _ I h) λu s1 iJ=>?_)
 obtain⟨v,H1,I1,r1,y,ev,hy,q⟩:=iJ
 subst ev
 obtain⟨t',rfl⟩:=r1
 have e1:(acc++y).length=acc.length+y.length:=strLen_append ..
 exact⟨by rw[e1];have:sizeLine=16777216:=rfl;omega,hr (acc++y) c_ s1 Z H1 Q (by rw[e1];omega) I1 q⟩
theorem lI{e1 e2:Expr}{es:List Expr}{t:TE}{pos:Pos}(h:PF X 0 (e1::e2::es) t):PE X (.JoinedStr (e1::e2::es) pos) t:=λc_ s Z H Q I hq=>by
 rw[arm_eval_JoinedStr]
 exact h Str.empty c_ s Z H Q (by decide) I hq
def tFr(te:TE):TE:=λZ H Q=>te Z H λv H1=>∃x,v=.str x/\(reprText x).length<=1048576/\Q (.str (reprText x)) H1
theorem mU{e:Expr}{te:TE}{pos:Pos}(he:PE X e te):PE X (.FormattedValue e 114 none pos) (tFr te):=by
 intro c_ s Z H Q I h
 refine wpAny_FormattedValue_repr (i8 (he c_ s Z H _ I h) λu s1 iJ=>?_)
 obtain⟨v,H1,I1,r1,x,ev,hy,q⟩:=iJ
 subst ev
 obtain⟨t',rfl⟩:=r1
 have hz:(reprText x).length<=sizeLine:=aai hy (by decide)
 refine wpAny_pyReprObj_str (hsz:=hz) ?_
 exact formatField_str (λt'' tk=>⟨.str (reprText x),H1,I1.tok _,⟨_,rfl⟩,q⟩) hz
end
section
variable{X:Cx}{c_:Qqz}{Z:St}{H:Hp}{s:Shared}{tg:Expr}
def zE(X:Cx)(d:Addr):Prop:=∀o u,X.H₀ d≠some (.nB o u)
theorem JW{u:HO}(mu:NH (some u)):(∀xs,u≠.tup xs)/\(∀o v,u≠.nB o v)/\(∀ps,u≠.LL ps)/\∀x,u≠.own x:=by
 cases u<;>first|exact False.elim mu|exact⟨(λ_ z=>nomatch z),(λ_ _ z=>nomatch z),(λ_ z=>nomatch z),(λ_ z=>nomatch z)⟩
theorem Inv.O4{d:Addr}{u:HO}(I:Inv X c_ Z H s)(hd:H d=some u)(mu:NH (some u)):zE X d:=λo v z=>by
 have:=I.base.uZ d o v z
 rw[hd] at this
 exact(JW mu).2.1 o v (aaz this)
theorem Inv.JX{d:Addr}{u v:HO}(I:Inv X c_ Z H s)(hd:H d=some u)(nt:∀xs,u≠.tup xs)(nb:∀ps,u≠.LL ps)(no:∀x,u≠.own x)(nf:zE X d)(new:i7 X.prog X.w (upd H d v) s.heap d v):Inv X c_ Z (upd H d v) s:=by
 have ne:∀b,H b=none->b≠d:=λb e z=>by rw[z,hd] at e;cases e
 refine⟨I.ok,I.os,I.bare,⟨I.base.keep,I.base.slot,λb o q n hx=>by rw[e_ (ne b (I.base.free b o q n hx))];exact I.base.free b o q n hx,I.base.there,λb xs q=>?_,λb o w q=>?_,λb ps q=>?_⟩,I.loc,I.cell,by rw[e_ (ne _ I.free)];exact I.free,λx c e=>by rw[e_ (ne _ (I.pO x c e))];exact I.pO x c e,λp hp=>?_,λb o e=>?_,I.len⟩
 ·have z:=I.base.pN b xs q
  have:b≠d:=λy=>by rw[y,hd] at z;exact nt xs (aaz z)
  rw[e_ this];exact z
 ·have z:=I.base.uZ b o w q
  have:b≠d:=λy=>by rw[y] at q;exact nf o w q
  rw[e_ this];exact z
 ·obtain⟨m,z⟩:=I.base.yL b ps q
  have:b≠d:=λy=>by rw[y,hd] at z;exact nb _ (aaz z)
  exact⟨m,by rw[e_ this];exact z⟩
 ·obtain⟨e1,e2,e3⟩:=I.pin p hp
  exact⟨e1,by rw[e_ (ne _ e2)];exact e2,e3⟩
 ·by_cases hb:b=d
  ·subst hb;rw[b_] at e;cases e;exact new
  ·rw[e_ hb] at e
   refine(I.iM b o e).zi (λ_ _ _ q=>q) (λc q=>?_) λc xs q=>?_
   ·have:c≠d:=λy=>by rw[y,hd] at q;exact no _ (aaz q)
    rw[e_ this];exact q
   ·have:c≠d:=λy=>by rw[y,hd] at q;exact nt _ (aaz q)
    rw[e_ this];exact q
theorem Inv.frozen{d:Addr}{u:HO}(I:Inv X c_ Z H s)(hd:H d=some u)(mu:NH (some u)):∃o,s.heap.get? d=some o/\Inv X c_ Z (upd H d (.nB o u)) s:=by
 obtain⟨o,ho⟩:=(I.iM d u hd).ex
 obtain⟨m1,m2,m3,m4⟩:=JW mu
 refine⟨o,ho,I.JX hd m1 m3 m4 (I.O4 hd mu) ⟨ho,?_⟩⟩
 refine(I.iM d u hd).zi (λ_ _ _ q=>q) (λc q=>?_) λc xs q=>?_
 ·have:c≠d:=λy=>by rw[y,hd] at q;exact m4 _ (aaz q)
  rw[e_ this];exact q
 ·have:c≠d:=λy=>by rw[y,hd] at q;exact m1 _ (aaz q)
  rw[e_ this];exact q
theorem Inv.wV{d:Addr}{o:Obj}{u:HO}(I:Inv X c_ Z H s)(hd:H d=some (.nB o u))(nf:zE X d):Inv X c_ Z (upd H d u) s:=by
 refine I.JX hd (λ_ z=>by cases z) (λ_ z=>by cases z) (λ_ z=>by cases z) nf ?_
 obtain⟨_,q⟩:=(show i7 X.prog X.w H s.heap d (.nB o u) from I.iM d _ hd)
 refine q.zi (λ_ _ _ q=>q) (λc q=>?_) λc xs q=>?_
 ·have:c≠d:=λy=>by rw[y,hd] at q;cases q
  rw[e_ this];exact q
 ·have:c≠d:=λy=>by rw[y,hd] at q;cases q
  rw[e_ this];exact q
def Sf(X:Cx)(t:TE):TE:=λZ H Q=>t Z H λv H2=>∃d o u,H2 d=some (.nB o u)/\zE X d/\Q v (upd H2 d u)
theorem G7{e:Expr}{t:TE}(h:PE X e t):PE X e (Sf X t):=λc_ s Z H Q I hq=>
 i8 (h c_ s Z H _ I hq) λv s' ⟨x,H',I',r,d,o,u,hd,nf,q⟩=>⟨x,_,I'.wV hd nf,r,q⟩
def Ends.WQ(X:Cx)(D:Ends):Ends where
 nx:=λZ H2=>∃d o u,H2 d=some (.nB o u)/\zE X d/\D.nx Z (upd H2 d u)
 rt:=λv H2=>∃d o u,H2 d=some (.nB o u)/\zE X d/\D.rt v (upd H2 d u)
 bk:=λZ H2=>∃d o u,H2 d=some (.nB o u)/\zE X d/\D.bk Z (upd H2 d u)
 ct:=λZ H2=>∃d o u,H2 d=some (.nB o u)/\zE X d/\D.ct Z (upd H2 d u)
theorem y8{st:Stmt}{t:TS}(h:PS X st t):PS X st (λD Z H=>t (D.WQ X) Z H):=λc_ s Z H D I hq=>i8 (h c_ s Z H _ I hq) λf s' q=>by
 cases f with
 | next=>obtain⟨Z',H',I',d,o,u,hd,nf,q⟩:=q;exact⟨Z',_,I'.wV hd nf,q⟩
 | brk=>obtain⟨Z',H',I',d,o,u,hd,nf,q⟩:=q;exact⟨Z',_,I'.wV hd nf,q⟩
 | cont=>obtain⟨Z',H',I',d,o,u,hd,nf,q⟩:=q;exact⟨Z',_,I'.wV hd nf,q⟩
 | ret v=>obtain⟨x,Z',H',I',r,d,o,u,hd,nf,q⟩:=q;exact⟨x,Z',_,I'.wV hd nf,r,q⟩
theorem CA{H:Hp}{d p:Addr}{u f o:HO}(hd:H d=some u)(hp:p≠d):upd (upd (upd H d f) p o) d u=upd H p o:=by
 funext b
 by_cases h1:b=d
 ·subst h1;rw[b_,e_ (abD hp),hd]
 ·rw[e_ h1]
  by_cases h2:b=p
  ·subst h2;rw[b_,b_]
  ·rw[e_ h2,e_ h2,e_ h1]
theorem wW{H:Hp}{d:Addr}{u f:HO}(hd:H d=some u):upd (upd H d f) d u=H:=by
 rw[LY]
 funext b
 by_cases h1:b=d
 ·subst h1;rw[b_,hd]
 ·rw[e_ h1]
noncomputable def Q7(d:Addr)(o:Obj)(kvs:List (Key×V)):It:=
 ⟨λi H=>H d=some (.nB o (.dK kvs))/\i<kvs.length,λi H x H'=>H'=H/\∃k v,kvs[i]?=some (k,v)/\x=kV k,λi H=>H d=some (.nB o (.dK kvs))/\kvs.length<=i⟩
theorem Mq{P:Program}{w:World}{k:Key}{u:Value}(h:(ji P w).is k u=true):RelV (kV k) u:=by
 rcases jq (show zh k u=true from h) with⟨i,t,rfl,rfl⟩|⟨x,t,rfl,rfl⟩
 ·exact⟨t,rfl⟩
 ·exact⟨t,rfl⟩
theorem JY{P:Program}{w:World}{h:Heap}{d:Addr}{o:Obj}{kvs:List (Key×V)}{es:Array DictEntry}{ep:Nat}(hd:o.data=.dict es ep)(q:i7 P w H h d (.nB o (.dK kvs))):(d ==sysModules)=false/\kvs.length<=sizeLine/\∃vs,KV kvs vs/\h.DictAt (ji P w) d vs ep:=by
 obtain⟨ho,hz,hs,vs,kv,o',Rg,N2,pI,h1,h2,h3⟩:=q
 rw[ho] at pI;cases pI
 rw[hd] at h2;cases h2
 exact⟨hs,hz,vs,kv,o,es,ho,h1,hd,h3⟩
theorem KV.at{Z:Type}{kvs:List (Z×V)}{vs:List (Z×Value)}(r:KV kvs vs):∀{i:Nat} {k:Z} {u:Value},vs[i]?=some (k,u)->∃v,kvs[i]?=some (k,v)/\RelV v u:=by
 induction r with
 | nil=>intro i k u e;simp at e
 | cons f t ih=>
  intro i k u e
  cases i with
  | zero=>
   simp at e
   subst e
   exact⟨_,aaQ some (Prod.ext f.1 rfl),f.2⟩
  | succ i=>
   obtain⟨v,h1,h2⟩:=ih (by simpa using e)
   exact⟨v,by simpa using h1,h2⟩
theorem Ik{P:Program}{w:World}{K:Qqy}(d it:Addr)(o:Obj)(es:Array DictEntry)(ep:Nat)(kvs:List (Key×V))(Lr:o.data=.dict es ep):Turn P w K tg (Q7 d o kvs) [it] it (λi h=>h.IsKeyIter it d i kvs.length ep) where
 mem:=by simp
 obj:=λi h st b hb=>by
  have e:b=it:=by simpa using hb
  subst e
  obtain⟨o,e,c,d⟩:=st
  exact⟨o,e,λv z=>by rw[d] at z;cases z⟩
 keep:=λi h h' st k=>st.at λo e=>k it (by simp) o e
 item:=by
  intro X hP hw hK hc i c_ s Z H E I hf st hg
  subst hP hw hK
  obtain⟨hd,hi⟩:=hg
  obtain⟨_,_,vs,kv,da⟩:=JY Lr (I.iM d _ hd)
  have hl:kvs.length=vs.length:=kv.length
  have Br:i<vs.length:=by omega
  obtain⟨⟨k,u⟩,hx⟩:∃p,vs[i]?=some p:=⟨vs[i],by simp[Br]⟩
  obtain⟨v,hv,_⟩:=kv.at hx
  obtain⟨f0,f1,f2,f3,f4,f5⟩:=hf it (by simp)
  rw[hl] at st
  refine wpAny_pyNext_dict_item st da hx λkey h' Qn yJ sb=>?_
  have I1:Inv X c_ Z H {s with heap:=h'}:=I.turned (t':=s.toks) (λb o hb e=>(sb.2 b hb).trans e) f0 f1 f3 f4 f5
  obtain⟨o',e,c,dd⟩:=id yJ
  exact⟨key,rfl,zl (s:={s with heap:=h'}) e c dd (by decide) ⟨kV k,H,I1,Mq Qn,⟨rfl,k,v,hv,rfl⟩,by rw[hl];exact yJ,λb hb=>(hf b hb).1⟩⟩
 done:=by
  intro X hP hw hK hc i c_ s Z H E I hf st hg
  subst hP hw hK
  obtain⟨hd,hi⟩:=hg
  obtain⟨_,_,vs,kv,da⟩:=JY Lr (I.iM d _ hd)
  have hl:kvs.length=vs.length:=kv.length
  obtain⟨f0,f1,f2,f3,f4,f5⟩:=hf it (by simp)
  rw[hl] at st
  exact wpAny_pyNext_dict_end (I.ok.hd hc) st da (by simp;omega) λh' eb=>⟨rfl,I.turned (t':=s.toks) (λb o hb e=>eb b o hb e) f0 f1 f3 f4 f5⟩
 self:=λ_ _ _ _ _ st h=>wpAny_pyIter_keyiter st h
def Sg(X:Cx)(td:TE):TI:=λZ H R=>td Z H λx H1=>∃d kvs,x=.ref d/\H1 d=some (.dK kvs)/\∀o,zE X d->R (Q7 d o kvs) (upd H1 d (.nB o (.dK kvs)))
theorem CB{l:Expr}{td:TE}(hl:PE X l td):PI X tg l (Sg X td):=by
 intro c_ s Z H R I h
 refine i8 (hl c_ s Z H _ I h) λv s1 iJ=>?_
 obtain⟨x,H1,I1,r1,q1⟩:=iJ
 obtain⟨d,kvs,e,hd,q⟩:=q1
 subst e
 cases r1
 have nf:=I1.O4 hd True.intro
 obtain⟨o,ho,I2⟩:=I1.frozen hd True.intro
 obtain⟨_,hs,vs,kv,o',es,ep,pI,h1,h2,h3⟩:=(show i7 X.prog X.w H1 s1.heap d (.dK kvs) from I1.iM d _ hd)
 rw[ho] at pI;cases pI
 refine wpAny_pyIter_dict (kvs:=vs) (ep:=ep) hs ⟨o,es,ho,h1,h2,h3⟩ ?_
 refine⟨s1.heap.objs.size,[s1.heap.objs.size],_,_,_,rfl,I2.kept (t':=s1.toks) λb o e=>aaj _ e,Ik d _ o es ep kvs h2,⟨_,aax _ rfl,rfl,by rw[kv.length];rfl⟩,λb hb=>?_,q o nf⟩
 have e:b=s1.heap.objs.size:=by simpa using hb
 subst e
 exact I2.zj (WR _) (I2.iM.fresh (WR _))
theorem JZ{d:Addr}{o:Obj}{kvs:List (Key×V)}{g:TG}{tb:TS}{D:Ends}{Z:St}{H:Hp}(Pv:Nat->St->Hp->Prop)(h0:Pv 0 Z H)(hl:∀i Z H,Pv i Z H->H d=some (.nB o (.dK kvs)))
  (hs:∀i k v Z H,kvs[i]?=some (k,v)->Pv i Z H->g (kV k) Z H λZ2 H2=>tb {D with nx:=Pv (i+1),ct:=Pv (i+1),bk:=D.nx} Z2 H2) (hd:∀Z H,Pv kvs.length Z H->D.nx Z H) :
  ∃W:Nat->Nat->St->Hp->Prop,(∃m,W 0 m Z H)/\∀i m Z H,W i m Z H->
   ((Q7 d o kvs).stop i H/\D.nx Z H)\/((Q7 d o kvs).go i H/\∃N:St->Hp->Prop,(∀Z' H',N Z' H'->∃m',m'<m/\W (i+1) m' Z' H')/\∀x H',(Q7 d o kvs).Jx i H x H'->g x Z H' λZ2 H2=>tb {D with nx:=N,ct:=N,bk:=D.nx} Z2 H2):=by
 refine⟨λi m Z H=>m=kvs.length-i/\i<=kvs.length/\Pv i Z H,⟨kvs.length,by simp,aaI _,h0⟩,?_⟩
 rintro i m Z H ⟨rfl,hi,p⟩
 have q:=hl i Z H p
 by_cases jT:i<kvs.length
 ·refine .inr ⟨⟨q,jT⟩,Pv (i+1),λZ' H' p'=>⟨kvs.length-(i+1),by omega,rfl,jT,p'⟩,λx H' y=>?_⟩
  obtain⟨e,k,v,y,rfl⟩:=y
  subst e
  exact hs i k v Z _ y p
 ·have e:i=kvs.length:=by omega
  subst e
  exact .inl ⟨⟨q,WR _⟩,hd Z H p⟩
theorem G8{d:Addr}{o:Obj}{kvs:List (Key×V)}{g:TG}{tt:TT}{te:TE}{Q:List V->Hp->Prop}{Z:St}{H:Hp}(hn:kvs.length<=sizeLine)(Pv:Nat->List V->St->Hp->Prop)(h0:Pv 0 [] Z H)(hl:∀i ys Z H,Pv i ys Z H->H d=some (.nB o (.dK kvs))/\ys.length<=i)
  (hs:∀i k v ys Z H,kvs[i]?=some (k,v)->Pv i ys Z H->g (kV k) Z H λZ2 H2=>tt Z2 H2 λb H3=>if b=true then te Z2 H3 λv H4=>Pv (i+1) (ys++[v]) Z2 H4 else Pv (i+1) ys Z2 H3)
  (hd:∀ys Z H,Pv kvs.length ys Z H->Q ys H):Ii g tt te (Q7 d o kvs) Q Z H:=by
 refine⟨λi m ys Z H=>m=kvs.length-i/\i<=kvs.length/\Pv i ys Z H,⟨kvs.length,by simp,aaI _,h0⟩,?_⟩
 rintro i m ys Z H ⟨rfl,hi,p⟩
 obtain⟨q,hy⟩:=hl i ys Z H p
 by_cases jT:i<kvs.length
 ·refine .inr ⟨⟨q,jT⟩,by omega,Pv (i+1),λRi Z' H' p'=>⟨kvs.length-(i+1),by omega,rfl,jT,p'⟩,λx H' y=>?_⟩
  obtain⟨e,k,v,y,rfl⟩:=y
  subst e
  exact hs i k v ys Z _ y p
 ·have e:i=kvs.length:=by omega
  subst e
  exact .inl ⟨⟨q,WR _⟩,by omega,hd ys Z H p⟩
theorem tF{Z Y:Type}{F:Z->Y->Prop}:∀{xs:List Z} {ys:List Y},xs.length=ys.length->(∀(i:Nat) a b,xs[i]?=some a->ys[i]?=some b->F a b)->Paired F xs ys
 | [],[],_,_=>.nil
 | [],_::_,e,_=>by simp at e
 | _::_,[],e,_=>by simp at e
 | x::xs,y::ys,e,h=>.cons (h 0 x y rfl rfl) (tF (by simpa using e) λi a b ha hb=>h (i+1) a b (by simpa using ha) (by simpa using hb))
end
section
variable{X:Cx}{CX:G0}{k:Nat}{f C:Addr}{fd:FuncData}{ps:List Str}{sp:Sp}{zg:List V}{ds:List Value}{E:XK}{x m:Str}{p pos apos:Pos}{e o:Expr}{es:List Expr}{ta:TE}{t:TA}{Z₀:St}
end
section
variable{X:Cx}{c_ pn:Qqz}{Z:St}{H:Hp}{s:Shared}{E:Qqq}{e:Addr}
end
section
variable{X:Cx}{c_:Qqz}{Z:St}{H:Hp}{s:Shared}{M:Model}{A:Around}{E:Qqq}
end
section
variable{P:Program}{w:World}{K:Qqy}{mg:Qqx}{base:Heap}
end
section
variable{X:Cx}{k:Nat}{f:Addr}{fd:FuncData}{ps:List Str}{sp:Sp}{x:Str}{p pos:Pos}{e:Expr}{es:List Expr}{t:TA}
end
open PySem PySem.Spec PyProof.Rows PySem.W PySem.Builtin PySem.Builtin.ObjectAttr PySem.Builtin.Getset_descriptor
section
variable{K:Qqy}{e C:Addr}{prog:Program}{w:World}{A:Around}{E:Qqq}{h:Heap}{g:Array GenState}{d:Drawn}{t:Nat}{os:OsState}
end
theorem jS{xs:List V}(h:xs.length<=15:=by simp):xs.length<=sizeLine:=aai h (by decide)
theorem gJ{Z:Type}{xs:List Z}{i:Int}{j:Nat}{v:Z}(e:i=(j:Int))(h:xs[j]?=some v):Cn xs i=some v:=by subst e;exact L9 h
theorem CC{n:Nat}{i:Int}{j:Nat}(e:i=(j:Int))(h:j<n):JE n i=some j:=by
 subst e
 unfold JE
 rw[aan (by omega),aan (by omega)]
 simp
theorem gs.upd{H H':Hp}{p:Addr}{o:HO}(s:gs H H')(h:H p=none):gs H (L2.upd H' p o):=λb u e=>by rw[e_ (gv e h)];exact s b u e
theorem gs.new{H H':Hp}{p:Addr}{o:HO}(s:gs H H')(h:H' p=none):gs H (L2.upd H' p o):=s.upd (s.free h)
def WS(t:TS):TS:=λD Z H=>∃J:St->Hp->Prop,t {D with nx:=J} Z H/\∀Z' H',J Z' H'->D.nx Z' H'
theorem SP.nx{X:Cx}{c_:Qqz}{D:Ends}{J:St->Hp->Prop}{f:Flow}{s:Shared}(hJ:∀Z' H',J Z' H'->D.nx Z' H')(h:SP X c_ {D with nx:=J} f s):SP X c_ D f s:=by
 cases f with
 | next=>obtain⟨Z,H,I,q⟩:=h;exact⟨Z,H,I,hJ _ _ q⟩
 | brk=>exact h
 | cont=>exact h
 | ret u=>exact h
theorem uB{X:Cx}{st:Stmt}{t:TS}(h:PS X st t):PS X st (WS t):=λc_ s Z H D I ⟨J,h1,h2⟩=>i8 (h c_ s Z H _ I h1) λf s' q=>SP.nx h2 q
theorem rN{Z:Type}{xs:List Z}{i:Int}(h0:0<=i)(h:i<(xs.length:Int)):∃v,Cn xs i=some v/\xs[i.toNat]?=some v:=by
 have hi:i.toNat<xs.length:=by omega
 exact⟨xs[i.toNat],gJ (j:=i.toNat) (by omega) (TH hi),TH hi⟩
theorem J0{b:Bool}{A B:Prop}(e:b=false)(h:B):if b=true then A else B:=by subst e;exact jD h
theorem J2{b:Bool}{A B:Prop}(e:b=true)(h:A):if b=true then A else B:=by subst e;exact lX h
theorem mod_lt(a b:Int)(h:0<b):0<=a%b/\a%b<b:=⟨Int.emod_nonneg a (by omega),Int.emod_lt_of_pos a h⟩
abbrev gw(l:List Str):List V:=l.map V.str
theorem ju(xs:List Str)(x:Str):gw xs++[V.str x]=gw (xs++[x]):=by unfold gw;rw[aau];rfl
theorem nY(x y:List Str):gw x++gw y=gw (x++y):=by unfold gw;rw[aau]
theorem mw{l:List Str}{j:Nat}{x:Str}(h:l[j]?=some x):(gw l)[j]?=some (V.str x):=by rw[aam,h];rfl
theorem mx{l:List Str}{j:Nat}{v:V}(h:(gw l)[j]?=some v):∃x,l[j]?=some x/\v=V.str x:=by
 rw[aam] at h
 cases e:l[j]? with
 | none=>rw[e] at h;cases h
 | some x=>rw[e] at h;cases h;exact⟨x,rfl,rfl⟩
theorem LM{A:Around}{k:Nat}(hr:kI k A){n:Nat}(h:n<=60:=by decide):A.units+n+1<cLine:=by have:=hr.units;omega
theorem iy{H:Hp}{a q:Addr}{o u:HO}(hq:H q=none)(h:H a=some o):upd H q u a=some o:=by rw[e_ (gv h hq)];exact h
theorem JT{t0 t1:TS}{D:Ends}{Z:St}{H:Hp}(h:let v1:=t1;iA t0 v1 D Z H):iA t0 t1 D Z H:=h
theorem Ep{t0 t1 t2:TS}{D:Ends}{Z:St}{H:Hp}(h:let v2:=t2;let v1:=iA t1 v2;iA t0 v1 D Z H):iA t0 (iA t1 t2) D Z H:=h
theorem O5{t0 t1 t2 t3:TS}{D:Ends}{Z:St}{H:Hp}(h:let v3:=t3;let v2:=iA t2 v3;let v1:=iA t1 v2;iA t0 v1 D Z H):iA t0 (iA t1 (iA t2 t3)) D Z H:=h
theorem Q8{t0 t1 t2 t3 t4:TS}{D:Ends}{Z:St}{H:Hp}(h:let v4:=t4;let v3:=iA t3 v4;let v2:=iA t2 v3;let v1:=iA t1 v2;iA t0 v1 D Z H):iA t0 (iA t1 (iA t2 (iA t3 t4))) D Z H:=h
theorem Sh{t0 t1 t2 t3 t4 t5:TS}{D:Ends}{Z:St}{H:Hp}(h:let v5:=t5;let v4:=iA t4 v5;let v3:=iA t3 v4;let v2:=iA t2 v3;let v1:=iA t1 v2;iA t0 v1 D Z H):iA t0 (iA t1 (iA t2 (iA t3 (iA t4 t5)))) D Z H:=h
theorem ZV{t0 t1 t2 t3 t4 t5 t6:TS}{D:Ends}{Z:St}{H:Hp}(h:let v6:=t6;let v5:=iA t5 v6;let v4:=iA t4 v5;let v3:=iA t3 v4;let v2:=iA t2 v3;let v1:=iA t1 v2;iA t0 v1 D Z H):iA t0 (iA t1 (iA t2 (iA t3 (iA t4 (iA t5 t6))))) D Z H:=h
theorem sl9{t0 t1 t2 t3 t4 t5 t6 t7 t8:TS}{D:Ends}{Z:St}{H:Hp}(h:let v8:=t8;let v7:=iA t7 v8;let v6:=iA t6 v7;let v5:=iA t5 v6;let v4:=iA t4 v5;let v3:=iA t3 v4;let v2:=iA t2 v3;let v1:=iA t1 v2;iA t0 v1 D Z H):iA t0 (iA t1 (iA t2 (iA t3 (iA t4 (iA t5 (iA t6 (iA t7 t8))))))) D Z H:=h
theorem WT{t0 t1 t2 t3 t4 t5 t6 t7 t8 t9:TS}{D:Ends}{Z:St}{H:Hp}(h:let v9:=t9;let v8:=iA t8 v9;let v7:=iA t7 v8;let v6:=iA t6 v7;let v5:=iA t5 v6;let v4:=iA t4 v5;let v3:=iA t3 v4;let v2:=iA t2 v3;let v1:=iA t1 v2;iA t0 v1 D Z H):iA t0 (iA t1 (iA t2 (iA t3 (iA t4 (iA t5 (iA t6 (iA t7 (iA t8 t9)))))))) D Z H:=h
theorem LN{w:TI}{g:TG}{b u:TS}{D:Ends}{Z:St}{H:Hp}(h:let v:=b;iA (OF w g v) u D Z H):iA (OF w g b) u D Z H:=h
abbrev rr(a:Addr):Option V:=some (.ref a)
abbrev rs(x:Str):Option V:=some (.str x)
abbrev ri(i:Int):Option V:=some (.int i)
section
variable{X:Cx}{tg:Expr}
def Q9(x:Str):It:=⟨λi _=>i<x.length,λi H v H'=>H'=H/\∃c,x.cps[i]?=some c/\v=.str ⟨#[c]⟩,λi _=>i=x.length⟩
theorem BL{P:Program}{w:World}{K:PySem.W.Frag}(it:Addr)(ty:String)(x:Str)(t:Tok)(Tg:["enumerate","zip","dict_itemiterator","dict_reverseitemiterator","odict_iterator","itertools.zip_longest","itertools.pairwise"].contains ty=false)
  (W:∀A:Around,A.handled=none->Walks P w A it [it] [it] x.cps.size (SignAt x) (λi h=>h.IsStrIter it ty x t i))
  (self:∀(A:Around)(i:Nat)(s:Shared)(Q:Qqq)(E:Qqq),s.heap.IsStrIter it ty x t i->Q (.ref it) s->wpAny (model P w) A (pyIter (.ref it)) Q E s):Turn P w K tg (Q9 x) [it] it (λi h=>h.IsStrIter it ty x t i) where
 mem:=by simp
 obj:=λi h st b hb=>by
  have e:b=it:=by simpa using hb
  subst e
  obtain⟨o,e,c,d⟩:=st
  exact⟨o,e,λv z=>by rw[d] at z;cases z⟩
 keep:=λi h h' ⟨o,ho,r⟩ k=>⟨o,k it (by simp) o ho,r⟩
 item:=by
  intro X hP hw hK hc i c_ s Z H E I hf st hg
  subst hP hw hK
  obtain⟨f0,f1,f2,f3,f4,f5⟩:=hf it (by simp)
  refine(W X.A (I.ok.hd hc)).item i s _ _ hg st λv h' tk hv yJ kk=>?_
  obtain⟨c,t',Bo,rfl⟩:=hv
  have I1:Inv X c_ Z H {s with heap:=h',toks:=tk}:=I.turned (λb o hb e=>kk b o (by simpa using hb) e) f0 f1 f3 f4 f5
  obtain⟨o',e,cc,dd⟩:=id yJ
  exact⟨_,rfl,zl (s:={s with heap:=h',toks:=tk}) e cc dd Tg ⟨.str ⟨#[c]⟩,H,I1,⟨t',rfl⟩,⟨rfl,c,Bo,rfl⟩,yJ,λb hb=>(hf b hb).1⟩⟩
 done:=by
  intro X hP hw hK hc i c_ s Z H E I hf st hg
  subst hP hw hK
  obtain⟨f0,f1,f2,f3,f4,f5⟩:=hf it (by simp)
  have e:i=x.cps.size:=hg
  subst e
  exact(W X.A (I.ok.hd hc)).done s _ _ st λh' tk kk=>⟨rfl,I.turned (λb o hb e=>kk b o (by simpa using hb) e) f0 f1 f3 f4 f5⟩
 self:=self
def Si(te:TE):TI:=λZ H R=>te Z H λv H1=>∃x,v=.str x/\R (Q9 x) H1
theorem O6{l:Expr}{te:TE}(hl:PE X l te):PI X tg l (Si te):=by
 intro c_ s Z H R I h
 refine i8 (hl c_ s Z H _ I h) λv s1 iJ=>?_
 obtain⟨y,H1,I1,r1,x,e,q⟩:=iJ
 subst e
 obtain⟨t,rfl⟩:=r1
 have fin:∀(ty:String)(T:Turn X.prog X.w X.K tg (Q9 x) [s1.heap.objs.size] s1.heap.objs.size (λi h=>h.IsStrIter s1.heap.objs.size ty x t i)),
   Wq X c_ Z tg R (.ref s1.heap.objs.size) {s1 with heap:=s1.heap.push {cls:=.type ty,data:=.fields #[.str x t,.int 0 0]}}:=λty T=>by
  refine⟨s1.heap.objs.size,[s1.heap.objs.size],_,_,H1,rfl,I1.kept (t':=s1.toks) λb o e=>aaj _ e,T,⟨_,aax _ rfl,rfl,rfl⟩,λb hb=>?_,q⟩
  have e:b=s1.heap.objs.size:=by simpa using hb
  subst e
  exact I1.zj (WR _) (I1.iM.fresh (WR _))
 cases ha:x.cps.all (·<128)
 ·exact wpAny_pyIter_wide ha (fin _ (BL _ _ x t (by decide) (λA hh=>Walks.strWide hh _ x t) λ_ _ _ _ _ st h=>wpAny_pyIter_striter_wide st h))
 ·exact wpAny_pyIter_ascii ha (fin _ (BL _ _ x t (by decide) (λA hh=>Walks.strAscii hh _ x t) λ_ _ _ _ _ st h=>wpAny_pyIter_striter_ascii st h))
theorem J3{x:Str}{g:TG}{tb:TS}{D:Ends}{Z:St}{H:Hp}(Pv:Nat->St->Hp->Prop)(h0:Pv 0 Z H)
  (hs:∀i c Z H,x.cps[i]?=some c->Pv i Z H->g (.str ⟨#[c]⟩) Z H λZ2 H2=>tb {D with nx:=Pv (i+1),ct:=Pv (i+1),bk:=D.nx} Z2 H2) (hd:∀Z H,Pv x.length Z H->D.nx Z H) :
  ∃W:Nat->Nat->St->Hp->Prop,(∃m,W 0 m Z H)/\∀i m Z H,W i m Z H->
   ((Q9 x).stop i H/\D.nx Z H)\/((Q9 x).go i H/\∃N:St->Hp->Prop,(∀Z' H',N Z' H'->∃m',m'<m/\W (i+1) m' Z' H')/\∀v H',(Q9 x).Jx i H v H'->g v Z H' λZ2 H2=>tb {D with nx:=N,ct:=N,bk:=D.nx} Z2 H2):=by
 refine⟨λi m Z H=>m=x.length-i/\i<=x.length/\Pv i Z H,⟨x.length,by simp,aaI _,h0⟩,?_⟩
 rintro i m Z H ⟨rfl,hi,p⟩
 by_cases jT:i<x.length
 ·refine .inr ⟨jT,Pv (i+1),λZ' H' p'=>⟨x.length-(i+1),by omega,rfl,jT,p'⟩,λv H' y=>?_⟩
  obtain⟨e,c,hc,rfl⟩:=y
  subst e
  exact hs i c Z _ hc p
 ·have e:i=x.length:=by omega
  subst e
  exact .inl ⟨rfl,hd Z H p⟩
def tFi(te:TE):TE:=λZ H Q=>te Z H λv H1=>∃i:Int,v=.int i/\i.natAbs.log2<1920/\Q (.str (toString i)) H1
theorem J4{e:Expr}{te:TE}{pos:Pos}(he:PE X e te):PE X (.FormattedValue e (-1) none pos) (tFi te):=by
 intro c_ s Z H Q I h
 refine FormattedValue_plain (i8 (he c_ s Z H _ I h) λu s1 iJ=>?_)
 obtain⟨v,H1,I1,r1,i,ev,hy,q⟩:=iJ
 subst ev
 obtain⟨t',rfl⟩:=r1
 exact formatField_int_small hy ⟨.str (toString i),H1,I1.tok _,⟨_,rfl⟩,q⟩
end
section
variable{X:Cx}{tg:Expr}
def J6(K:Qqy)(a:Addr)(n:Nat):It:=
 ⟨λi H=>i<n/\∃xs,gO K H a xs/\xs.length=n,λi H x H'=>H'=H/\∀xs,gO K H a xs->xs[n-1-i]?=some x,λi _=>i=n⟩
theorem J7{P:Program}{w:World}{K:Qqy}(a it:Addr)(n:Nat):Turn P w K tg (J6 K a n) [it] it (λi h=>h.IsRevIter it a ((n:Int)-1-(i:Nat))) where
 mem:=by simp
 obj:=λi h st b hb=>by
  have e:b=it:=by simpa using hb
  subst e
  obtain⟨o,e,c,d⟩:=st
  exact⟨o,e,λv z=>by rw[d] at z;cases z⟩
 keep:=λi h h' st k=>st.at λo e=>k it (by simp) o e
 item:=by
  intro X hP hw hK hc i c_ s Z H E I hf st hg
  subst hP hw hK
  obtain⟨hi,xs,hq,hl⟩:=hg
  obtain⟨gU,rv,p,hz⟩:=I.list hq
  have hx:xs[n-1-i]?=some xs[n-1-i]:=TH (by omega)
  obtain⟨u,hu,ru⟩:=rv.get hx
  obtain⟨f0,f1,f2,f3,f4,f5⟩:=hf it (by simp)
  have e1:(n:Int)-1-(i:Nat)=((n-1-i:Nat):Int):=by omega
  rw[e1] at st
  refine wpAny_pyNext_rev_item st p.isList (x:=u) (by simpa using hu) λh' yJ sb=>?_
  have e2:((n-1-i:Nat):Int)-1=(n:Int)-1-((i+1:Nat):Int):=by omega
  rw[e2] at yJ
  have I1:Inv X c_ Z H {s with heap:=h'}:=I.turned (t':=s.toks) (λb o hb e=>(sb.2 b hb).trans e) f0 f1 f3 f4 f5
  obtain⟨o,e,c,d⟩:=id yJ
  exact⟨u,rfl,zl (s:={s with heap:=h'}) e c d (by decide) ⟨_,H,I1,ru,⟨rfl,λys hy=>by rw[I.pP hy hq];exact hx⟩,yJ,λb hb=>(hf b hb).1⟩⟩
 done:=by
  intro X hP hw hK hc i c_ s Z H E I hf st hg
  subst hP hw hK
  have hg:i=n:=hg
  subst hg
  obtain⟨f0,f1,f2,f3,f4,f5⟩:=hf it (by simp)
  have e1:(i:Int)-1-(i:Nat)=-1:=by omega
  rw[e1] at st
  exact wpAny_pyNext_rev_end (I.ok.hd hc) st λh' eb=>⟨rfl,I.turned (t':=s.toks) (λb o hb e=>eb b o hb e) f0 f1 f3 f4 f5⟩
 self:=λ_ _ _ _ _ st h=>wpAny_pyIter_revIter st h
def Sj(K:Qqy)(ta:TA):TI:=λZ H R=>ta Z H λvs H1=>∃a xs,vs=[.ref a]/\gO K H1 a xs/\R (J6 K a xs.length) H1
theorem Mr{a:Expr}{ta:TA}{p pos:Pos}(hg:Gl X "reversed")(hm:X.mg "reversed"=none)(ha:PA X [a] ta)(hs:starEach [a] X.env=[(false,eval a X.env)]:=by rfl):PI X tg (.Call (.Name "reversed" p) [a] [] pos) (Sj X.K ta):=by
 intro c_ s Z H R I h
 refine Call_ (pe I hg hm boot_reversed (aa1 (i8 (ha pos c_ s Z H _ I h) λus s1 iJ=>?_) hs rfl))
 obtain⟨vs,H1,I1,r1,q1⟩:=iJ
 obtain⟨l,xs,rfl,hq,q⟩:=q1
 obtain⟨u,rfl,ru⟩:=vals1 r1
 cases (show u=Value.ref l from ru)
 obtain⟨gU,rv,pp,hz⟩:=I1.list hq
 have hl:=rv.length
 refine call_reversed_list pp.isList ?_
 have I2:Inv X c_ Z H1 {s1 with heap:=s1.heap.push (revObj l ((gU.toArray.size:Int)-1))}:=I1.kept (t':=s1.toks) λb o e=>aaj _ e
 have st:(s1.heap.push (revObj l ((gU.toArray.size:Int)-1))).IsRevIter s1.heap.objs.size l ((xs.length:Int)-1-((0:Nat):Int)):=by
  have e1:(xs.length:Int)-1-((0:Nat):Int)=(gU.toArray.size:Int)-1:=by rw[hl];simp
  rw[e1]
  exact⟨_,aax _ rfl,rfl,rfl⟩
 refine wpAny_pyIter_revIter st ?_
 refine⟨s1.heap.objs.size,[s1.heap.objs.size],_,_,H1,rfl,I2,J7 l _ xs.length,st,λb hb=>?_,q⟩
 have e:b=s1.heap.objs.size:=by simpa using hb
 subst e
 exact I1.zj (WR _) (I1.iM.fresh (WR _))
theorem Ms{K:PySem.W.Frag}{a:Addr}{xs:List V}{g:TG}{tb:TS}{D:Ends}{Z:St}{H:Hp}(Pv:Nat->St->Hp->Prop)(h0:Pv 0 Z H)(hl:∀i Z H,i<=xs.length->Pv i Z H->gO K H a xs)
  (hs:∀i x Z H,xs.reverse[i]?=some x->Pv i Z H->g x Z H λZ2 H2=>tb {D with nx:=Pv (i+1),ct:=Pv (i+1),bk:=D.nx} Z2 H2) (hd:∀Z H,Pv xs.length Z H->D.nx Z H) :
  ∃W:Nat->Nat->St->Hp->Prop,(∃m,W 0 m Z H)/\∀i m Z H,W i m Z H->
   ((J6 K a xs.length).stop i H/\D.nx Z H)\/((J6 K a xs.length).go i H/\∃N:St->Hp->Prop,(∀Z' H',N Z' H'->∃m',m'<m/\W (i+1) m' Z' H')/\∀x H',(J6 K a xs.length).Jx i H x H'->g x Z H' λZ2 H2=>tb {D with nx:=N,ct:=N,bk:=D.nx} Z2 H2):=by
 refine⟨λi m Z H=>m=xs.length-i/\i<=xs.length/\Pv i Z H,⟨xs.length,by simp,aaI _,h0⟩,?_⟩
 rintro i m Z H ⟨rfl,hi,p⟩
 have q:=hl i Z H hi p
 by_cases jT:i<xs.length
 ·refine .inr ⟨⟨jT,xs,q,rfl⟩,Pv (i+1),λZ' H' p'=>⟨xs.length-(i+1),by omega,rfl,jT,p'⟩,λx H' y=>?_⟩
  obtain⟨e,y⟩:=y
  subst e
  refine hs i x Z _ ?_ p
  rw[List.getElem?_reverse jT]
  exact y xs q
 ·have e:i=xs.length:=by omega
  subst e
  exact .inl ⟨rfl,hd Z H p⟩
theorem J9{prog:Program}{w:World}{A:Around}{E:Qqq}{s:Shared}{r:Addr}{Q:Bool->Shared->Prop}(hT:s.TypeIs (.ref r) "list_reverseiterator")(h:Q false s):wpAny (model prog w) A (Builtin.List.listLengthHint (.ref r)) Q E s:=by
 have f1:typeLookup (.type "list_reverseiterator") "__len__"=pure none:=by rw[typeLookup_type,builtinLookup_eq_fast];kernel_rfl
 have f2:typeLookup (.type "list_reverseiterator") "__length_hint__"=pure (some (.builtin "list_reverseiterator.__length_hint__")):=by rw[typeLookup_type,builtinLookup_eq_fast];kernel_rfl
 unfold Builtin.List.listLengthHint
 refine TN (ab9 hT f1 ?_)
 wp_delta
 refine aca (λGD=>absurd GD (by decide)) (λ_=>?_)
 refine aca (λGD=>absurd GD (by decide)) (λ_=>?_)
 refine TN (ab9 hT f2 ?_)
 generalize Vp:("list_reverseiterator.__length_hint__":String)=id0
 wp_delta
 rw[show splitId id0=some ("list_reverseiterator","__length_hint__") from by subst Vp;decide+kernel]
 subst Vp
 refine TN (wpAny_isInstance (T:="list_reverseiterator") (b:=true) hT (by rw[isSubtype_type];kernel_rfl) ?_)
 refine aca (λGD=>absurd GD (by decide)) (λ_=>?_)
 refine aca (λ_=>?_) (λGD=>absurd (by decide+kernel) GD)
 refine aca (λGD=>absurd GD (by decide)) (λ_=>?_)
 exact aaf h
theorem Il{prog:Program}{w:World}{A:Around}{E:Qqq}{s:Shared}{T:String}{r d:Addr}{n:Nat}{P:Nat->Value->Prop}{St:Nat->Heap->Prop}{Q:Qqq}
  (W:Walks prog w A.in1.in1 r [r,d] [r] n P St) (hT:∀h:Heap,St 0 h->∃o,h.get? r=some o/\o.cls=.type T) (hl:(Value.type T ==Value.type "list")=false) (ht:(Value.type T ==Value.type "tuple")=false)
  (hint:∀(A:Around)(E:Qqq)(s:Shared)(Q:Bool->Shared->Prop),St 0 s.heap->Q false s->wpAny (model prog w) A (Builtin.List.listLengthHint (.ref r)) Q E s)
  (self:∀(A:Around)(E:Qqq)(s:Shared)(Q:Qqq),St 0 s.heap->Q (.ref r) s->wpAny (model prog w) A (pyIter (.ref r)) Q E s)
  (hd:d<s.heap.objs.size) (st:St 0 s.heap) (hn:n<=sizeLine)
  (hQ:∀h' tk Nq c',(∀b o,b≠r->s.heap.get? b=some o->h'.get? b=some o)->h'.get? s.heap.objs.size=some {cls:=.type "list",dict:=none,data:=.seq Nq c',slots:=#[]}->ItemsOf P Nq n->Q (.ref s.heap.objs.size) {s with heap:=h',toks:=tk}) :
  wpAny (model prog w) A (call (.type "list") [.ref r]) Q E s:=by
 obtain⟨or,hor,hcr⟩:=hT _ st
 have DV:r<s.heap.objs.size:=aas hor
 refine callType_codes (Q₁:=λobj s1=>obj=.ref s.heap.objs.size/\s1={s with heap:=s.heap.push {cls:=.type "list",data:=.seq #[]}}) PySem.F.called_list (PySem.F.typeCall_list_1 _) PySem.F.entry_list_init
  (code_list_new _ ⟨rfl,rfl⟩) λobj s1 h₁=>?_
 obtain⟨rfl,rfl⟩:=h₁
 have hS:(s.heap.push {cls:=.type "list",data:=.seq #[]}).get? s.heap.objs.size=some {cls:=.type "list",data:=.seq #[]}:=aax _ rfl
 have Xu:s.heap.objs.size≠r:=Nat.ne_of_gt DV
 have hSd:s.heap.objs.size≠d:=Nat.ne_of_gt hd
 refine⟨⟨_,hS,rfl⟩,PySem.F.args_list_init_2 _ _,?_⟩
 show wpAny _ _ (do let old <-Builtin.List.listItems (.ref s.heap.objs.size);Builtin.List.listUpdate (.ref s.heap.objs.size) (λ_=>#[]);letGo old.toList.reverse;Builtin.List.listExtendWith (.ref s.heap.objs.size) (.ref r) .none) _ _ _
 refine TN ?_
 unfold Builtin.List.listItems
 refine TN (wpAny_seqItems hS rfl (aaf ?_))
 show wpAny _ _ (updateSeq s.heap.objs.size (λ_=>#[]) >>= λ_=>letGo (#[]:Array Value).toList.reverse >>= λ_=>Builtin.List.listExtendWith (.ref s.heap.objs.size) (.ref r) .none) _ _ _
 refine TN (wpAny_updateSeq hS rfl ?_)
 have Vq:=aa5 (Obj.mapSeq (λ_=>(#[]:Array Value))) hS rfl
 have Vr:∀b o,s.heap.get? b=some o->((s.heap.push {cls:=.type "list",data:=.seq #[]}).update s.heap.objs.size (Obj.mapSeq (λ_=>(#[]:Array Value)))).get? b=some o:=
  λb o e=>(abL _ _ (Nat.ne_of_gt (aas e))).trans (aaj _ e)
 refine TN (wpAny_letGo ?_)
 generalize (s.heap.push {cls:=.type "list",data:=.seq #[]}).update s.heap.objs.size (Obj.mapSeq (λ_=>(#[]:Array Value)))=h2 at Vq Vr
 have Bp:St 0 h2:=W.frame 0 _ _ st λb _ o e=>Vr b o e
 have key:∀(h:Heap)(c1 tk:Nat),St 0 h->(∀b o,s.heap.get? b=some o->h.get? b=some o)->
   h.get? s.heap.objs.size=some {cls:=.type "list",data:=.seq #[] c1}->codeAny (model prog w) A.in1 (.builtin "list.extend.loop" ⟨[.ref s.heap.objs.size,.ref r,.none],[]⟩)
    (λr s'=>match r with|.ok (.ret v)=>v=.none/\Q (.ref s.heap.objs.size) s'|.ok _=>False|.error e=>E e s') {s with heap:=h,toks:=tk}:=by
  intro h c1 tk xy hk hS1
  refine codeAny_extend_loopS W.toS hn s.heap.objs.size (by simp only [XH,acg,or_false,not_or];exact⟨Xu,hSd⟩) .none n 0 _ #[] c1 rfl (aaI _) xy hS1 (ItemsOf.nil _) λs' Nq c' hm hS' wx=>?_
  rw[Moved.eq_with hm]
  refine⟨rfl,hQ s'.heap s'.toks Nq c' (λb o hb e=>hm.heap b o (λwy=>?_) (hk b o e)) hS' wx⟩
  rcases XH.mp wy with e'|wy
  ·exact absurd (aas e) (by rw[e'];exact abi _)
  ·exact hb (WO.mp wy)
 unfold Builtin.List.listExtendWith
 refine TN (wpAny_typeOf (T:=T) (hT _ Bp) ?_)
 have h1:Builtin.List.listSameRef (.ref s.heap.objs.size) (.ref r)=false:=by simp[Builtin.List.listSameRef,Xu]
 simp only [h1,hl,ht,Bool.or_false,aaR,abQ]
 refine TN (self _ _ _ _ Bp ?_)
 refine TN (abx (hint _ _ _ _ Bp ?_))
 refine aca (λ_=>?_) (λ_=>aaf ⟨plainId_quiet PySem.F.plain_extend_loop _,key _ _ _ Bp Vr Vq⟩)
 refine TN (wpAny_rule ?_)
 refine TN ?_
 show wpAny _ _ (updateSeq s.heap.objs.size (·.push .none) >>= λ_=>updateSeq s.heap.objs.size (·.pop)) _ _ _
 refine TN (wpAny_updateSeq Vq rfl ?_)
 have hS3:=aa5 (Obj.mapSeq (·.push Value.none)) Vq rfl
 refine wpAny_updateSeq (hz:=by seq_fits) hS3 rfl ?_
 have hS4:=aa5 (Obj.mapSeq (·.pop)) hS3 rfl
 have Tv:∀b o,b≠s.heap.objs.size->h2.get? b=some o->((h2.update s.heap.objs.size (Obj.mapSeq (·.push Value.none))).update s.heap.objs.size (Obj.mapSeq (·.pop))).get? b=some o:=λb o hb e=>
  (abL _ _ (abD hb)).trans ((abL _ _ (abD hb)).trans e)
 refine aaf ⟨plainId_quiet PySem.F.plain_extend_loop _,key _ _ _ (W.frame 0 _ _ Bp λb hb o e=>Tv b o (λz=>?_) e) (λb o e=>Tv b o (aaJ (aas e)) (Vr b o e)) hS4⟩
 subst z
 simp only [XH,acg,or_false] at hb
 rcases hb with z|z
 ·exact Xu z
 ·exact hSd z
def J_(K:Qqy)(ta:TA):TE:=λZ H Q=>ta Z H λvs H1=>∃a xs,vs=[.ref a]/\gO K H1 a xs/\∀p,H1 p=none->Q (.ref p) (upd H1 p (.lst xs.reverse))
theorem FR{a:Expr}{ta:TA}{p1 p2 Xv Nr:Pos}(hc:X.calm=true)(LR:Gl X "list")(Xw:X.mg "list"=none)(hg:Gl X "reversed")(hm:X.mg "reversed"=none)(ha:PA X [a] ta)(hs:starEach [a] X.env=[(false,eval a X.env)]:=by rfl)
  (Xx:starEach [.Call (.Name "reversed" p2) [a] [] Nr] X.env=[(false,eval (.Call (.Name "reversed" p2) [a] [] Nr) X.env)]:=by rfl):PE X (.Call (.Name "list" p1) [.Call (.Name "reversed" p2) [a] [] Nr] [] Xv) (J_ X.K ta):=by
 intro c_ s Z H Q I h
 refine Call_ (pe I LR Xw boot_list (aa1 ?_ Xx rfl))
 rw[Xx]
 refine abb ?_
 refine Call_ (pe I hg hm boot_reversed (aa1 (i8 (ha Nr c_ s Z H _ I h) λus s1 iJ=>?_) hs rfl))
 obtain⟨vs,H1,I1,r1,q1⟩:=iJ
 obtain⟨l,xs,rfl,hq,q⟩:=q1
 obtain⟨u,rfl,ru⟩:=vals1 r1
 cases (show u=Value.ref l from ru)
 obtain⟨gU,rv,pp,hz⟩:=I1.list hq
 have hl:=rv.length
 refine call_reversed_list pp.isList (abv ?_)
 have jT:l<s1.heap.objs.size:=let ⟨o,ho,_⟩:=pp.isList;aas ho
 have hL:(s1.heap.push (revObj l ((gU.toArray.size:Int)-1))).IsList l gU.toArray:=pp.isList.at λo e=>aaj _ e
 refine Il (s:={s1 with heap:=s1.heap.push (revObj l ((gU.toArray.size:Int)-1))}) (T:="list_reverseiterator") (d:=l) (n:=gU.toArray.size) (Walks.listRev (prog:=X.prog) (w:=X.w) (A:=X.A.in1.in1) (show X.A.in1.in1.handled=none from I.ok.hd hc) s1.heap.objs.size l (aaJ jT) gU.toArray) (λh ⟨_,⟨o,ho,Bo,_⟩,_⟩=>⟨o,ho,Bo⟩) (by decide) (by decide)
  (λA E s Q ⟨_,⟨o,ho,Bo,_⟩,_⟩ hq=>J9 ⟨o,ho,Bo⟩ hq) (λA E s Q ⟨_,x,_⟩ hq=>wpAny_pyIter_revIter x hq) (aaB jT (by show s1.heap.objs.size<=(s1.heap.push _).objs.size;rw[Heap.size_push];exact Nat.le_succ _))
  ⟨aaI _,by
   have e:(gU.toArray.size:Int)-1-((0:Nat):Int)=(gU.toArray.size:Int)-1:=by omega
   rw[e];exact⟨_,aax _ rfl,rfl,rfl⟩,hL⟩ (by rw[aag,<-hl];exact hz) λh' tk acc c hk hS wx=>?_
 have hf:H1 (s1.heap.push (revObj l ((gU.toArray.size:Int)-1))).objs.size=none:=I1.iM.fresh (by rw[Heap.size_push];omega)
 have rel:Vals xs.reverse acc.toList:=by
  have hsz:acc.toList.length=acc.size:=aaL
  refine tF (by rw[abj,hsz,wx.1,aag,hl]) λi x y hx hy=>?_
  have hi:i<xs.length:=by have:=(List.getElem?_eq_some_iff.mp hx).1;rwa [abj] at this
  have z:=wx.2 i y (by rw[<-aa7];exact hy)
  rw[List.getElem?_reverse hi] at hx
  obtain⟨w,hw,Bq⟩:=rv.get hx
  rw[aag,<-hl] at z
  have z2:gU[xs.length-1-i]?=some y:=by simpa using z
  rw[hw] at z2
  cases z2
  exact Bq
 refine⟨.ref _,upd H1 _ (.lst xs.reverse),I1.laid (t':=tk) (h':=h') (λb o e=>hk b o (aaJ (aas e)) (aaj _ e)) (by rw[Heap.size_push];omega) ?_,rfl,q _ hf⟩
 exact⟨by rw[abj];exact hz,acc.toList,c,rel,by rw[Array.toArray_toList];exact hS⟩
end
open PySem PySem.Builtin.Str
theorem subAt_one(s:Str)(c i:Nat):subAt s ⟨#[c]⟩ i=decide (s.cps[i]?=some c):=by
 unfold subAt
 show(s.cps.extract i (i+1) ==#[c])=_
 rw[aa4]
 simp only [abS,abU]
 by_cases h:i<s.cps.size
 ·have e:s.cps.extract i (i+1)=#[s.cps[i]]:=by
   apply Array.ext
   ·simp;omega
   ·intro j h1 h2
    simp at h2
    subst h2
    simp
  rw[e,aaY h]
  constructor
  ·intro z;simpa using z
  ·intro z;simpa using z
 ·have e:s.cps.extract i (i+1)=#[]:=by
   apply Array.ext
   ·simp;omega
   ·intro j h1 h2;simp at h2
  rw[e,Array.getElem?_eq_none (by omega)]
  simp
noncomputable def oK(s sub:Str)(hi:Nat)(p:Array Nat×Nat)(i:Nat):Array Nat×Nat:=
 if(decide (p.1.size<1)&&decide (p.2<=i)&&decide (i+sub.length<=hi)&&subAt s sub i)=true then(p.1.push i,i+sub.length) else p
theorem Ka(s sub:Str)(lo hi:Nat):occurrences s sub lo hi 1=((List.range' lo (hi+1-lo)).foldl (oK s sub hi) (#[],lo)).1.toList:=by
 unfold occurrences
 simp only [Std.Legacy.Range.forIn_eq_forIn_range',Std.Legacy.Range.size]
 rw[show(hi+1-lo+1-1)/1=hi+1-lo by omega]
 generalize List.range' lo (hi+1-lo)=l
 generalize ((#[],lo):Array Nat×Nat)=p
 show Id.run (forIn l p _ >>= _)=_
 have go:∀(l:List Nat)(p:Array Nat×Nat),(forIn l p (λ(i:Nat) (q:Array Nat×Nat)=>(if(decide (q.fst.size<1)&&decide (q.snd<=i)&&decide (i+sub.length<=hi)&&subAt s sub i)=true then
   pure (ForInStep.yield (q.fst.push i,i+sub.length)) else pure (ForInStep.yield (q.fst,q.snd)):Id (ForInStep (Array Nat×Nat)))):Id (Array Nat×Nat))=l.foldl (oK s sub hi) p:=by
  intro l
  induction l with
  | nil=>intro p;rfl
  | cons a r ih=>
   intro p
   rw[List.forIn_cons,List.foldl_cons]
   unfold oK
   split
   ·exact ih _
   ·exact ih _
 rw[go]
 rfl
theorem Mt(s:Str)(c:Nat):(occurrences s ⟨#[c]⟩ 0 s.length 1).isEmpty=decide (c∉s.cps.toList):=by
 rw[Ka]
 have inv:∀(l:List Nat)(p:Array Nat×Nat),(p.1=#[]->p.2=0)->((l.foldl (oK s ⟨#[c]⟩ s.length) p).1=#[]↔p.1=#[]/\∀i∈l,¬(i+1<=s.length/\s.cps[i]?=some c)):=by
  intro l
  induction l with
  | nil=>intro p _;simp
  | cons a r ih=>
   intro p hp
   rw[List.foldl_cons]
   by_cases hc:(decide (p.1.size<1)&&decide (p.2<=a)&&decide (a+(⟨#[c]⟩:Str).length<=s.length)&&subAt s ⟨#[c]⟩ a)=true
   ·have e:oK s ⟨#[c]⟩ s.length p a=(p.1.push a,a+(⟨#[c]⟩:Str).length):=aan hc
    rw[e,ih _ (λz=>by simp at z)]
    simp only [aa8,abU,subAt_one] at hc
    constructor
    ·rintro⟨z,_⟩;simp at z
    ·rintro⟨z,h⟩
     exact absurd ⟨hc.1.2,hc.2⟩ (h a aap)
   ·have e:oK s ⟨#[c]⟩ s.length p a=p:=aac hc
    rw[e,ih _ hp]
    constructor
    ·rintro⟨z,h⟩
     refine⟨z,λi hi=>?_⟩
     rcases XH.mp hi with rfl|hi
     ·intro ⟨h1,h2⟩
      apply hc
      simp only [aa8,abU,subAt_one]
      exact⟨⟨⟨by rw[z];decide,by rw[hp z];exact aaI _⟩,h1⟩,h2⟩
     ·exact h i hi
    ·rintro⟨z,h⟩
     exact⟨z,λi hi=>h i (aaa _ hi)⟩
 have h:=inv (List.range' 0 (s.length+1-0)) (#[],0) (λ_=>rfl)
 rw[aa4,abU,List.isEmpty_iff]
 rw[show(List.foldl (oK s ⟨#[c]⟩ s.length) (#[],0) (List.range' 0 (s.length+1-0))).1.toList=[]↔(List.foldl (oK s ⟨#[c]⟩ s.length) (#[],0) (List.range' 0 (s.length+1-0))).1=#[] from ⟨λz=>by simpa using z,λz=>by rw[z]⟩,h]
 constructor
 ·rintro⟨_,h⟩ hm
  obtain⟨i,hi,e⟩:=List.mem_iff_getElem.mp hm
  have Br:i<s.cps.size:=by simpa using hi
  refine h i (by rw[List.mem_range'_1];show 0<=i/\i<0+(s.cps.size+1-0);omega) ⟨Br,?_⟩
  rw[aaY Br]
  simpa using e
 ·intro hn
  refine⟨rfl,λi _ ⟨_,h2⟩=>hn ?_⟩
  exact WW (i:=i) (by rw[aa7];exact h2)
section
variable{prog:Program}{w:World}{A:Around}{E:Qqq}{s:Shared}
end
section
variable{X:Cx}
end
def wX(h:Heap)(d:Addr)(es:Array DictEntry)(ep:Nat):Prop:=∃o,h.get? d=some o/\o.ExactDict/\o.data=.dict es ep
section
variable{P:Program}{w:World}{A:Around}{E:Qqq}{s:Shared}{d it:Addr}{es:Array DictEntry}{ep i:Nat}
theorem wX.ty(x:wX s.heap d es ep):s.TypeIs (.ref d) "dict":=by obtain⟨o,e,c,_⟩:=x;exact⟨o,e,c.1⟩
theorem wX.at{h h':Heap}(x:wX h d es ep)(k:∀o,h.get? d=some o->h'.get? d=some o):wX h' d es ep:=by obtain⟨o,e,r⟩:=x;exact⟨o,k o e,r⟩
theorem Er{Q:Qqq}(lo:(d ==sysModules)=false)(x:wX s.heap d es ep)
  (k:Q (.ref s.heap.objs.size) {s with heap:=s.heap.push {cls:=.type "dict_keyiterator",data:=.fields #[.ref d,.int 0 0,.int es.size 0,.int ep 0]}}):wpAny (model P w) A (pyIter (.ref d)) Q E s:=by
 have ty:=x.ty
 obtain⟨o,e,c,dt⟩:=x
 refine wpAny_pyIter_slot ty F.slot_dict_iter (abM F.slot_dict_iter ty F.entry_dict_iter ?z (F.args_dict_iter_1 _))
 case z=>
  unfold Builtin.«dict.__iter__» Builtin.Dict.dictSlotNone
  refine TN (TN (wpAny_notOrdered_dict ty (show wpAny _ _ (pure (Value.ref d)) _ _ s from aaf ?z)))
  case z=>
   show wpAny _ _ (Builtin.Dict.showsAll d >>= _) _ _ s
   unfold Builtin.Dict.showsAll
   rw[lo,aac (λz=>by cases z)]
   refine TN (aaf (TN (aa_ e dt (TN (wpAny_dictEpoch e dt (TN (wpAny_newObj_type (aaf ?z))))))))
   case z=>exact⟨_,rfl,"dict_keyiterator",_,⟨_,aax _ rfl,rfl⟩,abl.lookup,by simpa[rawInt] using k⟩
theorem Es{Q:Option Value->Shared->Prop}{y:DictEntry}(x:s.heap.IsKeyIter it d i es.size ep)(r:wX s.heap d es ep)(hy:es[i]?=some y)
  (k:∀h',h'.IsKeyIter it d (i+1) es.size ep->Heap.SameBut it s.heap h'->Q (some y.key) {s with heap:=h'}):wpAny (model P w) A (pyNext (.ref it)) Q E s:=by
 have ty:=x.typeIs
 obtain⟨o,e,c,dt⟩:=id x
 obtain⟨o2,e2,c2,Tw⟩:=r
 have Qv:Builtin.Dict_items.ownsTuple "dict_keyiterator"=false:=by decide
 unfold pyNext
 refine TN (wpAny_attempt (wpAny_callSpecial?_slot (name:=Str.ofString "__next__") ty abl (abM abl ty F.entry_dict_keyiterator_next ?z (F.args_dict_keyiterator_next_1 _))))
 case z=>
  refine TN (aaf (TN (TN ?z)))
  case z=>
   first|refine TN (abB ty (aaf (TN (wpAny_fieldsOf e dt ?z))))|refine TN (wpAny_typeNameOf_keyiter ty (aaf (TN (wpAny_fieldsOf e dt ?z))))
   case z=>
    simp only [Qv,aaR,abQ]
    show wpAny _ _ (if(Value.ref d ==Value.none)=true then _ else _) _ _ s
    rw[aac (λz=>by cases z)]
    refine TN (aaf (TN (aa_ e2 Tw ?z)))
    case z=>
     rw[aac (by simp)]
     refine TN (aaf (TN (wpAny_dictEpoch e2 Tw ?z)))
     case z=>
      rw[aac (by simp)]
      refine aaf ?z
      case z=>
       simp only [show ¬((i:Int)<0) by omega,abQ,abF,hy]
       refine TN ?z
       case z=>
        first|refine TN (abB ty (aaf (TN (wpAny_isOneOf_keyiter ty ?z))))|refine TN (wpAny_typeNameOf_keyiter ty (aaf (TN (wpAny_isOneOf_keyiter ty ?z))))
        case z=>
         show wpAny _ _ (setField (.ref it) 1 (rawInt ((i:Int)+1)) >>= _) _ _ s
         have n:(s.heap.update it (Obj.mapFields (·.setIfInBounds 1 (rawInt ((i:Int)+1))))).IsKeyIter it d (i+1) es.size ep:=
          ⟨_,aa5 _ e (Obj.isFreed_of_fields (Obj.data_mapFields dt _)),(Obj.cls_mapFields ..).trans c,by rw[Obj.data_mapFields dt];simp[rawInt]⟩
         refine TN (wpAny_setField e dt (by simp) (TN (abx (TN (wpAny_isOneOf_keyiter (s:={s with heap:=s.heap.update it (Obj.mapFields (·.setIfInBounds 1 (rawInt ((i:Int)+1))))}) n.typeIs ?z)))))
         case z=>
          show wpAny _ _ (pure y.key) _ _ _
          exact aaf (aaf ⟨_,rfl,aaf (k _ n (abk ..))⟩)
theorem Et{Q:Option Value->Shared->Prop}(hh:A.handled=none)(x:s.heap.IsKeyIter it d i es.size ep)(r:wX s.heap d es ep)(hy:es.size<=i)
  (k:∀h',Heap.ExtBut it s.heap h'->Q none {s with heap:=h'}):wpAny (model P w) A (pyNext (.ref it)) Q E s:=by
 have ty:=x.typeIs
 obtain⟨o,e,c,dt⟩:=id x
 obtain⟨o2,e2,c2,Tw⟩:=r
 have Qv:Builtin.Dict_items.ownsTuple "dict_keyiterator"=false:=by decide
 unfold pyNext
 refine TN (wpAny_attempt (wpAny_callSpecial?_slot (name:=Str.ofString "__next__") ty abl (abM abl ty F.entry_dict_keyiterator_next ?z (F.args_dict_keyiterator_next_1 _))))
 case z=>
  refine TN (aaf (TN (TN ?z)))
  case z=>
   first|refine TN (abB ty (aaf (TN (wpAny_fieldsOf e dt ?z))))|refine TN (wpAny_typeNameOf_keyiter ty (aaf (TN (wpAny_fieldsOf e dt ?z))))
   case z=>
    simp only [Qv,aaR,abQ]
    show wpAny _ _ (if(Value.ref d ==Value.none)=true then _ else _) _ _ s
    rw[aac (λz=>by cases z)]
    refine TN (aaf (TN (aa_ e2 Tw ?z)))
    case z=>
     rw[aac (by simp)]
     refine TN (aaf (TN (wpAny_dictEpoch e2 Tw ?z)))
     case z=>
      rw[aac (by simp)]
      refine aaf ?z
      case z=>
       simp only [show ¬((i:Int)<0) by omega,abQ,abF,Array.getElem?_eq_none hy]
       refine TN ?z
       case z=>
        first|refine TN (abB ty (aaf ?z))|refine TN (wpAny_typeNameOf_keyiter ty (aaf ?z))
        case z=>
         show wpAny _ _ (setField (.ref it) 0 .none >>= _) _ _ s
         refine TN (wpAny_setField e dt (by simp) ?z)
         case z=>
          show wpAny _ _ (newExc (.type "StopIteration") [] >>= _) _ _ _
          refine TN ?z
          case z=>
           simp only [newExc,newTuple]
           refine TN (wpAny_newObj_type (TN (m:=firstArgMember _ _) (wpAny_of_eq (a:=Value.none) (by first|rfl|(simp only [firstArgMember];rfl)) (wpAny_newObj_type ?z (by size_fits)))) (by size_fits))
           case z=>
            simp only [raiseNew]
            refine TN (wpAny_handled ?z)
            case z=>
             rw[show A.in1.handled=none from hh]
             refine TN (aaf (wpAny_throw ?z))
             case z=>exact TN (wpAny_isInstance (T:="StopIteration") (b:=true) ⟨_,aax _ rfl,rfl⟩ isSubtype_stop <| aaf (k _ (((abk ..).extBut.push _).push _)))
end
section
variable{X:Cx}{c_:Qqz}{Z:St}{H:Hp}{s:Shared}{tg:Expr}
noncomputable def Im(d:Addr)(o:Obj)(kvs:List (List Key×V)):It:=
 ⟨λi H=>H d=some (.nB o (.dT kvs))/\i<kvs.length,λi H x H'=>H'=H/\∃k v b,kvs[i]?=some (k,v)/\x=.ref b/\H b=some (.tup (k.map kV)),λi H=>H d=some (.nB o (.dT kvs))/\kvs.length<=i⟩
theorem kt_at{kvs:List (List Key×V)}{xs:List (List Key×Addr×Value)}(r:KT H kvs xs):∀{i:Nat} {k:List Key} {b:Addr} {u:Value},xs[i]?=some (k,b,u)->∃v,kvs[i]?=some (k,v)/\H b=some (.tup (k.map kV))/\RelV v u:=by
 induction r with
 | nil=>intro i k b u e;simp at e
 | @cons p q ps qs f t ih=>
  intro i k b u e
  cases i with
  | zero=>
   simp at e
   subst e
   exact⟨p.2,aaQ some (Prod.ext f.1 rfl),by rw[<-show p.1=k from f.1];exact f.2.1,f.2.2⟩
  | succ i=>
   obtain⟨v,h1,h2⟩:=ih (by simpa using e)
   exact⟨v,by simpa using h1,h2⟩
theorem zF{P:Program}{w:World}{h:Heap}{d:Addr}{kvs:List (List Key×V)}(q:i7 P w H h d (.dT kvs)):(d ==sysModules)=false/\kvs.length<=sizeLine/\∃(es:Array DictEntry)(ep:Nat),wX h d es ep/\es.size=kvs.length/\
  (∀(i:Nat)(y:DictEntry),es[i]?=some y->∃k v b,kvs[i]?=some (k,v)/\y.key=.ref b/\H b=some (.tup (k.map kV))/\RelV v y.val):=by
 obtain⟨hz,hs,xs,r,o,es,ep,ho,hc,hd,he,hn⟩:=q
 have sz:=acb he
 refine⟨hs,hz,es,ep,⟨o,ho,hc,hd⟩,by rw[sz];exact(aak r).symm,λi y hy=>?_⟩
 rw[entry_at he i] at hy
 obtain⟨⟨k,b,u⟩,hx,e⟩:=Option.map_eq_some_iff.mp hy
 obtain⟨v,h1,h2,h3⟩:=kt_at r hx
 subst e
 exact⟨k,v,b,h1,rfl,h2,h3⟩
theorem FT{P:Program}{w:World}{K:Qqy}(d it:Addr)(o:Obj)(es:Array DictEntry)(ep:Nat)(kvs:List (List Key×V))(Lr:o.data=.dict es ep)(hsz:es.size=kvs.length):Turn P w K tg (Im d o kvs) [it] it (λi h=>h.IsKeyIter it d i es.size ep) where
 mem:=by simp
 obj:=λi h st b hb=>by
  have e:b=it:=by simpa using hb
  subst e
  obtain⟨o,e,c,d⟩:=st
  exact⟨o,e,λv z=>by rw[d] at z;cases z⟩
 keep:=λi h h' st k=>st.at λo e=>k it (by simp) o e
 item:=by
  intro X hP hw hK hc i c_ s Z H E I hf st hg
  subst hP hw hK
  obtain⟨hd,hi⟩:=hg
  obtain⟨ho,q⟩:=(show i7 X.prog X.w H s.heap d (.nB o (.dT kvs)) from I.iM d _ hd)
  obtain⟨_,_,Rg,N2,raw,sz,Nt⟩:=zF q
  obtain⟨o',pI,h2,h3⟩:=id raw
  rw[ho] at pI;cases pI
  rw[Lr] at h3;cases h3
  have Br:i<es.size:=by omega
  obtain⟨k,v,b,e1,e2,e3,_⟩:=Nt i es[i] (aaY Br)
  obtain⟨f0,f1,f2,f3,f4,f5⟩:=hf it (by simp)
  refine Es st raw (aaY Br) λh' yJ sb=>?_
  have I1:Inv X c_ Z H {s with heap:=h'}:=I.turned (t':=s.toks) (λb o hb e=>(sb.2 b hb).trans e) f0 f1 f3 f4 f5
  obtain⟨o',e,c,dd⟩:=id yJ
  exact⟨_,rfl,zl (s:={s with heap:=h'}) e c dd (by decide) ⟨.ref b,H,I1,e2,⟨rfl,k,v,b,e1,rfl,e3⟩,yJ,λb hb=>(hf b hb).1⟩⟩
 done:=by
  intro X hP hw hK hc i c_ s Z H E I hf st hg
  subst hP hw hK
  obtain⟨hd,hi⟩:=hg
  obtain⟨ho,q⟩:=(show i7 X.prog X.w H s.heap d (.nB o (.dT kvs)) from I.iM d _ hd)
  obtain⟨_,_,Rg,N2,raw,sz,Nt⟩:=zF q
  obtain⟨o',pI,h2,h3⟩:=id raw
  rw[ho] at pI;cases pI
  rw[Lr] at h3;cases h3
  obtain⟨f0,f1,f2,f3,f4,f5⟩:=hf it (by simp)
  exact Et (I.ok.hd hc) st raw (by omega) λh' eb=>⟨rfl,I.turned (t':=s.toks) (λb o hb e=>eb b o hb e) f0 f1 f3 f4 f5⟩
 self:=λ_ _ _ _ _ st h=>wpAny_pyIter_keyiter st h
def O7(X:Cx)(td:TE):TI:=λZ H R=>td Z H λx H1=>∃d kvs,x=.ref d/\H1 d=some (.dT kvs)/\∀o,zE X d->R (Im d o kvs) (upd H1 d (.nB o (.dT kvs)))
theorem zG{l:Expr}{td:TE}(hl:PE X l td):PI X tg l (O7 X td):=by
 intro c_ s Z H R I h
 refine i8 (hl c_ s Z H _ I h) λv s1 iJ=>?_
 obtain⟨x,H1,I1,r1,q1⟩:=iJ
 obtain⟨d,kvs,e,hd,q⟩:=q1
 subst e
 cases r1
 have nf:=I1.O4 hd True.intro
 obtain⟨o,ho,I2⟩:=I1.frozen hd True.intro
 obtain⟨hs,_,es,ep,raw,sz,_⟩:=zF (I1.iM d _ hd)
 obtain⟨o',pI,h2,h3⟩:=id raw
 rw[ho] at pI;cases pI
 refine Er hs raw ?_
 refine⟨s1.heap.objs.size,[s1.heap.objs.size],_,_,_,rfl,I2.kept (t':=s1.toks) λb o e=>aaj _ e,FT d _ o es ep kvs h3 sz,⟨_,aax _ rfl,rfl,rfl⟩,λb hb=>?_,q o nf⟩
 have e:b=s1.heap.objs.size:=by simpa using hb
 subst e
 exact I2.zj (WR _) (I2.iM.fresh (WR _))
theorem BM{d:Addr}{o:Obj}{kvs:List (List Key×V)}{g:TG}{tb:TS}{D:Ends}{Z:St}{H:Hp}(Pv:Nat->St->Hp->Prop)(h0:Pv 0 Z H)(hl:∀i Z H,Pv i Z H->H d=some (.nB o (.dT kvs)))
  (hs:∀i k v b Z H,kvs[i]?=some (k,v)->H b=some (.tup (k.map kV))->Pv i Z H->g (.ref b) Z H λZ2 H2=>tb {D with nx:=Pv (i+1),ct:=Pv (i+1),bk:=D.nx} Z2 H2) (hd:∀Z H,Pv kvs.length Z H->D.nx Z H) :
  ∃W:Nat->Nat->St->Hp->Prop,(∃m,W 0 m Z H)/\∀i m Z H,W i m Z H->
   ((Im d o kvs).stop i H/\D.nx Z H)\/((Im d o kvs).go i H/\∃N:St->Hp->Prop,(∀Z' H',N Z' H'->∃m',m'<m/\W (i+1) m' Z' H')/\∀x H',(Im d o kvs).Jx i H x H'->g x Z H' λZ2 H2=>tb {D with nx:=N,ct:=N,bk:=D.nx} Z2 H2):=by
 refine⟨λi m Z H=>m=kvs.length-i/\i<=kvs.length/\Pv i Z H,⟨kvs.length,by simp,aaI _,h0⟩,?_⟩
 rintro i m Z H ⟨rfl,hi,p⟩
 have q:=hl i Z H p
 by_cases jT:i<kvs.length
 ·refine .inr ⟨⟨q,jT⟩,Pv (i+1),λZ' H' p'=>⟨kvs.length-(i+1),by omega,rfl,jT,p'⟩,λx H' y=>?_⟩
  obtain⟨e,k,v,b,y,rfl,hb⟩:=y
  subst e
  exact hs i k v b Z _ y hb p
 ·have e:i=kvs.length:=by omega
  subst e
  exact .inl ⟨⟨q,WR _⟩,hd Z H p⟩
theorem Kb{d:Addr}{o:Obj}{kvs:List (List Key×V)}{g:TG}{tt:TT}{te:TE}{Q:List V->Hp->Prop}{Z:St}{H:Hp}(hn:kvs.length<=sizeLine)(Pv:Nat->List V->St->Hp->Prop)(h0:Pv 0 [] Z H)(hl:∀i ys Z H,Pv i ys Z H->H d=some (.nB o (.dT kvs))/\ys.length<=i)
  (hs:∀i k v b ys Z H,kvs[i]?=some (k,v)->H b=some (.tup (k.map kV))->Pv i ys Z H->g (.ref b) Z H λZ2 H2=>tt Z2 H2 λc H3=>if c=true then te Z2 H3 λv H4=>Pv (i+1) (ys++[v]) Z2 H4 else Pv (i+1) ys Z2 H3)
  (hd:∀ys Z H,Pv kvs.length ys Z H->Q ys H):Ii g tt te (Im d o kvs) Q Z H:=by
 refine⟨λi m ys Z H=>m=kvs.length-i/\i<=kvs.length/\Pv i ys Z H,⟨kvs.length,by simp,aaI _,h0⟩,?_⟩
 rintro i m ys Z H ⟨rfl,hi,p⟩
 obtain⟨q,hy⟩:=hl i ys Z H p
 by_cases jT:i<kvs.length
 ·refine .inr ⟨⟨q,jT⟩,by omega,Pv (i+1),λRi Z' H' p'=>⟨kvs.length-(i+1),by omega,rfl,jT,p'⟩,λx H' y=>?_⟩
  obtain⟨e,k,v,b,y,rfl,hb⟩:=y
  subst e
  exact hs i k v b ys Z _ y hb p
 ·have e:i=kvs.length:=by omega
  subst e
  exact .inl ⟨⟨q,WR _⟩,by omega,hd ys Z H p⟩
end
section
variable{P:Program}{w:World}{d it:Addr}{es:Array DictEntry}{ep:Nat}
theorem Io{A:Around}(hh:A.handled=none)(qo:d≠it):Walks P w A it [it,d] [it] es.size (λi v=>∃y,es[i]?=some y/\v=y.key) (λi h=>h.IsKeyIter it d i es.size ep/\wX h d es ep) where
 sub:=λb hb=>by rw[WO.mp hb];exact aap
 frame:=λi h h' ⟨a,b⟩ hk=>⟨a.at λo e=>hk it aap o e,b.at λo e=>hk d (by simp) o e⟩
 item:=λi s Q E hi ⟨a,b⟩ hQ=>Es a b (aaY hi) λh' a' sb=>hQ _ h' s.toks ⟨_,aaY hi,rfl⟩ ⟨a',b.at λo e=>sb.extBut d o qo e⟩ λb o hb e=>sb.extBut b o (λz=>hb (by rw[z];exact WO.mpr rfl)) e
 done:=λs Q E ⟨a,b⟩ hQ=>Et hh a b (WR _) λh' eb=>hQ h' s.toks λb o hb e=>eb b o (λz=>hb (by rw[z];exact WO.mpr rfl)) e
 self:=λi s Q E ⟨a,_⟩ hQ=>wpAny_pyIter_keyiter a hQ
theorem Mu(lo:(d ==sysModules)=false):W.KdlSrc P w "dict" d d es.size (λi v=>∃y,es[i]?=some y/\v=y.key) (λh=>wX h d es ep) where
 type:=λs r=>r.ty
 there:=λh ⟨o,e,_⟩=>⟨aas e,aas e⟩
 keep:=λh h' r hk=>r.at λo e=>hk d (.inl rfl) o e
 notList:=by decide
 notTuple:=by decide
 hint:=λA E s Q r hq=>W.kdl_hint_dict r.ty hq
 iter:=λA s hh r=>⟨_,_,(λE Q hq=>Er lo r hq),Io hh (by obtain⟨o,e,_⟩:=r;exact aaJ (aas e)),⟨⟨_,aax _ rfl,rfl,rfl⟩,r.at λo e=>aaj _ e⟩⟩
end
section
variable{X:Cx}{c_:Qqz}{Z:St}{H:Hp}{s:Shared}
theorem yN(hc:X.calm=true):ve X (.type "list") (λxs H Q=>∃d kvs,xs=[V.ref d]/\H d=some (.dT kvs)/\∀p bs,H p=none->Paired (λ(kv:List Key×V) (b:Addr)=>H b=some (.tup (kv.1.map kV))) kvs bs->Q (.ref p) (upd H p (.lst (bs.map V.ref)))):=by
 intro c_ s Z H xs us Q I r h
 obtain⟨d,kvs,rfl,hd,q⟩:=h
 obtain⟨u,rfl,ru⟩:=vals1 r
 cases (show u=Value.ref d from ru)
 obtain⟨hs,hz,es,ep,raw,sz,Nt⟩:=zF (I.iM d _ hd)
 refine W.kdl_call (Mu hs) (I.ok.hd hc) raw (by omega) λh' tk acc c hk hS wx=>?_
 have hf:H s.heap.objs.size=none:=I.iM.fresh (WR _)
 have hb:∀i:Nat,i<kvs.length->∃k v b,kvs[i]?=some (k,v)/\(es[i]?.map DictEntry.key)=some (Value.ref b)/\H b=some (.tup (k.map kV)):=λi hi=>by
  have Br:i<es.size:=by omega
  obtain⟨k,v,b,e1,e2,e3,_⟩:=Nt i es[i] (aaY Br)
  exact⟨k,v,b,e1,by rw[aaY Br,ab7,e2],e3⟩
 let adr:Value->Addr:=λv=>match v with|.ref b=>b|_=>0
 let bs:List Addr:=es.toList.map λy=>adr y.key
 have N_:bs.length=kvs.length:=by show(es.toList.map _).length=_;rw[Ob,aaL];exact sz
 have hbs:∀(i:Nat)(b:Addr),bs[i]?=some b->∃k v,kvs[i]?=some (k,v)/\es[i]?.map DictEntry.key=some (Value.ref b)/\H b=some (.tup (k.map kV)):=λi b e=>by
  have hi:i<kvs.length:=by rw[<-N_];exact(List.getElem?_eq_some_iff.mp e).1
  obtain⟨k,v,b',e1,e2,e3⟩:=hb i hi
  have:bs[i]?=some b':=by
   show(es.toList.map _)[i]?=_
   rw[aam,aa7]
   obtain⟨y,ey,e4⟩:=Option.map_eq_some_iff.mp e2
   rw[ey]
   show some (adr y.key)=_
   rw[e4]
  rw[this] at e
  cases e
  exact⟨k,v,e1,e2,e3⟩
 have rel:Vals (bs.map V.ref) acc.toList:=by
  refine tF (by have e1:=wx.1;have e2:acc.toList.length=acc.size:=aaL;rw[Ob,N_];omega) λi a b ha hb=>?_
  rw[aam] at ha
  obtain⟨b',e,rfl⟩:=Option.map_eq_some_iff.mp ha
  obtain⟨k,v,_,e2,_⟩:=hbs i b' e
  obtain⟨y,hy,hv⟩:=wx.2 i b (by rw[<-aa7];exact hb)
  rw[hy,ab7] at e2
  show b=.ref b'
  rw[hv,aaz e2]
 refine⟨.ref s.heap.objs.size,upd H s.heap.objs.size (.lst (bs.map V.ref)),I.laid (t':=tk) hk (WR _) ?_,rfl,q _ bs hf (tF N_.symm λi a b ha hb=>?_)⟩
 ·exact⟨by rw[Ob,N_];exact hz,acc.toList,c,rel,by rw[Array.toArray_toList];exact hS⟩
 ·obtain⟨k,v,e1,_,e3⟩:=hbs i b hb
  rw[e1] at ha
  cases ha
  exact e3
end
section
variable{P:Program}{w:World}{Z:Type}[DecidableEq Z]{knd:HeapKind P w Z}{A:Around}{E:Qqq}{s:Shared}{d a:Addr}{xs:List (Z×Addr×Value)}{k:Z}
theorem Kc{v:Value}{Q:Unit->Shared->Prop}(hu:knd.room A)(hk:knd.is s.heap k a)(m:s.heap.DictOfH knd d xs)(hz:xs.length<=sizeLine)
  (q:∀h',h'.DictOfH knd d (storedH xs k a v)->Heap.SameBut d s.heap h'->Q () {s with heap:=h'}):wpAny (model P w) A (dictSetHashed d (.ref a) (knd.hash k) v) Q E s:=by
 obtain⟨o,es,ep,ho,hc,hd,he,Rj,hn⟩:=m
 have sz:=acb he
 unfold dictSetHashed
 try with_reducible refine abx ?_
 refine TN (wpAny_dictFind_heap hu hk ho hd he Rj hn (λno=>?_) λj p hj=>?_)
 ·have at0:=atKey_none_of_get no
  refine TN (wpAny_rule (wpAny_updateDictKeys (hz:=by omega) ho hd (q _ ?_ (abk ..))))
  rw[storedH_new at0]
  refine⟨_,_,ep+1,aa5 _ ho (Obj.isFreed_of_dict (Obj.data_mapDictKeys hd _)),hc.mapDictKeys _,Obj.data_mapDictKeys hd _,by simp[he,entryOfKey],λx hx=>?_,?_⟩
  ·refine knd.keeps ?_ ho hd (abk ..)
   rcases ZU.mp hx with hx|hx
   ·exact Rj x hx
   ·rw[WO.mp hx];exact hk
  ·rw[aau,aaZ]
   exact⟨hn,by simp,λx hx y hy z=>not_mem_keys_of_get no (by rw[WO.mp hy] at z;have z:x=k:=z;exact z▸hx)⟩
 ·have at1:=atKey_of_get hn hj
  refine TN (wpAny_rule (TN (wpAny_updateDict ho hd (wpAny_point (q _ ?_ (abk ..))))))
  rw[storedH_old at1]
  refine⟨_,_,ep,aa5 _ ho (Obj.isFreed_of_dict (Obj.data_mapDict hd _)),hc.mapDict _,Obj.data_mapDict hd _,?_,λx hx=>?_,by rw[keys_map_putAt];exact hn⟩
  ·have z:=modify_map_putAt (entryOfKey knd) (λe:DictEntry=>{e with val:=v}) k v (λ_ _=>rfl) hn hj
   rw[<-he] at z
   obtain⟨l⟩:=es
   simpa using z
  ·obtain⟨y,hy,rfl⟩:=aaA.mp hx
   unfold putAt
   split<;>exact knd.keeps (Rj y hy) ho hd (abk ..)
def Eu(xs:List (Z×Addr×Value))(k:Z):List (Z×Addr×Value):=xs.filter λx=>decide (x.1≠k)
theorem FU{Y:Type}(f:Z×Addr×Value->Y):∀{xs:List (Z×Addr×Value)} {j:Nat} {p:Addr×Value},(xs.map (·.1)).Nodup->xs[j]?=some (k,p)->(xs.map f).eraseIdx j=(Eu xs k).map f:=by
 intro xs
 induction xs with
 | nil=>intro j p _ hj;simp at hj
 | cons x r ih=>
  intro j p hn hj
  rw[aat,aaW] at hn
  unfold Eu
  cases j with
  | zero=>
   simp at hj
   have e:r.filter (λx=>decide (x.1≠k))=r:=List.filter_eq_self.mpr λy hy=>WV λz=>hn.1 (by rw[hj];show k∈_;rw[<-z];exact YO hy)
   rw[aab (by rw[hj];simp),e]
   rfl
  | succ j=>
   have hj:r[j]?=some (k,p):=by simpa using hj
   have ne:x.1≠k:=λz=>hn.1 (by rw[z];exact aaA.mpr ⟨_,WW hj,rfl⟩)
   rw[ZT (by simpa using ne),aat,aat,List.eraseIdx_cons_succ,ih hn.2 hj]
   rfl
theorem Kd{p:Addr×Value}{Q:Option DictEntry->Shared->Prop}(hu:knd.room A)(hk:knd.is s.heap k a)(m:s.heap.DictOfH knd d xs)(hz:xs.length<=sizeLine)(hp:atKey xs k=some p)
  (q:∀h',h'.DictOfH knd d (Eu xs k)->Heap.SameBut d s.heap h'->Q (some ⟨knd.hash k,.ref p.1,p.2⟩) {s with heap:=h',toks:=s.toks+knd.draws k}):wpAny (model P w) A (Builtin.Dict.takeOut d (.ref a)) Q E s:=by
 obtain⟨o,es,ep,ho,hc,hd,he,Rj,hn⟩:=m
 have sz:=acb he
 unfold Builtin.Dict.takeOut
 try with_reducible refine abx ?_
 refine TN (knd.pyHash hu hk (TN (wpAny_dictFind_heap (s:={s with toks:=s.toks+knd.draws k}) hu hk ho hd he Rj hn (λno=>?_) λj p' hj=>?_)))
 ·rw[atKey_none_of_get no] at hp;cases hp
 ·have e:=atKey_of_get hn hj
  rw[hp] at e
  cases e
  refine TN (aa_ (s:={s with toks:=s.toks+knd.draws k}) ho hd ?_)
  rw[entry_at he j,hj]
  refine TN (wpAny_updateDictKeys (hz:=by omega) (s:={s with toks:=s.toks+knd.draws k}) ho hd (aaf (q _ ?_ (abk ..))))
  refine⟨_,_,ep+1,aa5 _ ho (Obj.isFreed_of_dict (Obj.data_mapDictKeys hd _)),hc.mapDictKeys _,Obj.data_mapDictKeys hd _,?_,λx hx=>knd.keeps (Rj x (aal.mp hx).1) ho hd (abk ..),(aaV.map _).nodup hn⟩
  have z:=FU (k:=k) (entryOfKey knd) hn hj
  rw[<-he] at z
  rw[<-z]
  obtain⟨l⟩:=es
  simp
def kS(xs more:List (Z×Addr×Value)):List (Z×Addr×Value):=more.foldl (λacc x=>storedH acc x.1 x.2.1 x.2.2) xs
theorem Ew{xs more:List (Z×Addr×Value)}{i:Nat}{x:Z×Addr×Value}(h:more[i]?=some x):kS xs (more.take (i+1))=storedH (kS xs (more.take i)) x.1 x.2.1 x.2.2:=by
 unfold kS
 rw[List.take_add_one,h,List.foldl_append]
 rfl
theorem Ex(xs:List (Z×Addr×Value))(k:Z)(a:Addr)(v:Value):(storedH xs k a v).length<=xs.length+1:=by
 unfold storedH
 split
 ·rw[Ob];omega
 ·rw[XF];exact WR _
theorem FV(xs:List (Z×Addr×Value)):∀more:List (Z×Addr×Value),(kS xs more).length<=xs.length+more.length:=by
 intro more
 unfold kS
 induction more generalizing xs with
 | nil=>exact WR _
 | cons x r ih=>
  have h1:=ih (storedH xs x.1 x.2.1 x.2.2)
  have h2:=Ex xs x.1 x.2.1 x.2.2
  rw[List.foldl_cons,ZY]
  omega
theorem FW{nm:String}{o:Addr}{more:List (Z×Addr×Value)}{Q:Unit->Shared->Prop}(hu:knd.room A)(ne:d≠o)(lo:(o ==sysModules)=false)(qo:xs≠[])(md:s.heap.DictOfH knd d xs)(mo:s.heap.DictOfH knd o more)(hz:xs.length+more.length<=sizeLine)
  (q:∀h',h'.DictOfH knd d (kS xs more)->Heap.SameBut d s.heap h'->Q () {s with heap:=h'}):wpAny (model P w) A (Builtin.Dict.mergeDict nm d o) Q E s:=by
 obtain⟨od,Vs,epd,Vt,Cb,Rl,Tx,Vp,Qw⟩:=id md
 obtain⟨oo,Jj,epo,Vu,hco,Lr,Lk,hio,hno⟩:=id mo
 have szo:=acb Lk
 have szd:=acb Tx
 unfold Builtin.Dict.mergeDict Builtin.Dict.showsAll
 rw[aac (by simpa using ne),lo,aac (λz=>by cases z)]
 refine TN (aaf (TN (aa_ Vu Lr ?_)))
 dsimp only
 have loop:wpAny (model P w) A (do
   let Tz <-dictEpoch o
   let l <-dictEntries o
   forIn [:l.size] PUnit.unit λi (_:PUnit)=>(do
     let l' <-dictEntries o
     match l'[i]? with
      | some e=>do
       holding [e.key,e.val] (dictSetHashed d e.key e.hash e.val)
       let N2 <-dictEpoch o
       if(N2 != Tz)=true then do (unsupported (toString nm++toString ":source-changed-during-callback"):Sem PUnit);pure (ForInStep.yield PUnit.unit)
        else pure (ForInStep.yield PUnit.unit)
      | _=>do (unsupported "internal:dict-merge":Sem PUnit);pure (ForInStep.yield PUnit.unit):Sem (ForInStep PUnit))
   pure ()) Q E s:=by
  refine TN (wpAny_dictEpoch Vu Lr (TN (aa_ Vu Lr (TN ?_))))
  rw[Std.Legacy.Range.forIn_eq_forIn_range']
  simp only [Std.Legacy.Range.size,Nat.sub_zero,Nat.add_sub_cancel,Nat.div_one]
  refine wpAny_forIn_list _ (λrest _ s'=>∃h' i,s'={s with heap:=h'}/\rest=List.range' i (Jj.size-i)/\i<=Jj.size/\h'.DictOfH knd d (kS xs (more.take i))/\Heap.SameBut d s.heap h') _ ?_ ?_ _ _ ⟨s.heap,0,rfl,by simp,aaI _,by simpa[kS] using md,Heap.SameBut.refl _ _⟩
  ·rintro x rest b s' ⟨h',i,rfl,hr,hi,hm,hs⟩
   have jT:i<Jj.size:=by
    rcases Nat.lt_or_ge i Jj.size with z|z
    ·exact z
    ·rw[Nat.sub_eq_zero_of_le z] at hr;simp at hr
   obtain⟨ex,er⟩:x=i/\rest=List.range' (i+1) (Jj.size-(i+1)):=by
    rw[show Jj.size-i=(Jj.size-(i+1))+1 by omega,ach] at hr
    exact List.cons.inj hr
   subst ex
   have TB:h'.get? o=some oo:=(hs.2 o (abD ne)).trans Vu
   refine TN (aa_ TB Lr ?_)
   obtain⟨⟨k,b2,v⟩,hx⟩:∃y,more[x]?=some y:=⟨more[x]'(by omega),TH _⟩
   rw[entry_at Lk x,hx]
   show wpAny _ _ (holding [Value.ref b2,v] (dictSetHashed d (.ref b2) (knd.hash k) v) >>= _) _ _ _
   have hl:(kS xs (more.take x)).length<=sizeLine:=by
    have:=FV xs (more.take x)
    rw[aaC] at this
    omega
   have hib:knd.is h' k b2:=knd.keeps (hio _ (WW hx)) Vt Rl hs
   refine TN (abx (Kc (s:={s with heap:=h'}) hu hib hm hl λh2 m2 s2=>?_))
   refine TN (wpAny_dictEpoch ((s2.2 o (abD ne)).trans TB) Lr ?_)
   rw[aac (by simp)]
   exact aaf ⟨h2,x+1,rfl,er,jT,by rw[Ew hx];exact m2,hs.trans s2⟩
  ·rintro b s' ⟨h',i,rfl,hr,hi,hm,hs⟩
   have e:i=Jj.size:=by
    rcases Nat.lt_or_ge i Jj.size with z|z
    ·rw[show Jj.size-i=(Jj.size-(i+1))+1 by omega,ach] at hr;cases hr
    ·omega
   refine aaf (q h' ?_ hs)
   rw[e,szo,aaq] at hm
   exact hm
 split
 ·refine TN (aa_ Vt Rl ?_)
  rw[aac (λz=>?_)]
  ·exact loop
  ·have:Vs=#[]:=Array.isEmpty_iff.mp z
   rw[this] at szd
   exact qo (aaK.mp szd.symm)
 ·exact loop
theorem Ke{o:Addr}{more:List (Z×Addr×Value)}{Q:Qqq}(hu:knd.room A.in1)(ne:d≠o)(lo:(o ==sysModules)=false)(qo:xs≠[])(md:s.heap.DictOfH knd d xs)(mo:s.heap.DictOfH knd o more)(hz:xs.length+more.length<=sizeLine)
  (q:∀h',h'.DictOfH knd d (kS xs more)->Heap.SameBut d s.heap h'->Q .none {s with heap:=h'}):wpAny (model P w) A (call (.builtin "dict.update") [.ref d,.ref o]) Q E s:=by
 refine abM abV md.typeIs PySem.F.entry_dict_update ?_ (PySem.F.args_dict_update_2 _ _)
 unfold Builtin.«dict.update» Builtin.Dict.selfAndRest
 refine TN (TN (wpAny_notOrdered_dict md.typeIs (show wpAny _ _ (pure (d,[Value.ref o])) _ _ s from aaf ?_)))
 show wpAny _ _ (Builtin.Dict.updateFrom "dict.update" d (.ref o) [] .none) _ _ s
 unfold Builtin.Dict.updateFrom
 refine TN (wpAny_typeOf mo.typeIs ?_)
 rw[aac (by decide)]
 unfold Builtin.Dict.merge Builtin.Dict.readDirectly
 refine TN (TN (TN (wpAny_isInstance mo.typeIs isSubtype_dict_dict ?_)))
 simp only [Bool.not_true,aaR,abQ]
 refine TN (ab9 mo.typeIs F.slot_dict_iter.lookup (aaf ?_))
 simp only [beq_self_eq_true,if_true]
 refine TN (aaf (FW hu ne lo qo md mo hz λh' m s'=>?_))
 show wpAny _ _ (Builtin.Dict.addKeywords d [] >>= _) _ _ _
 exact TN (aaf (aaf ⟨.none,rfl,q h' m s'⟩))
end
def putAll{Z:Type}[DecidableEq Z](kvs more:List (Z×V)):List (Z×V):=more.foldl (λacc kv=>putK acc kv.1 kv.2) kvs
section
variable{Z:Type}[DecidableEq Z]
theorem rO(kvs:List (Z×V))(p:Z×V)(r:List (Z×V)):putAll kvs (p::r)=putAll (putK kvs p.1 p.2) r:=rfl
theorem qv:∀(more kvs:List (Z×V)),(putAll kvs more).length<=kvs.length+more.length
 | [],kvs=>WR _
 | p::r,kvs=>by
  have h1:=qv r (putK kvs p.1 p.2)
  have h2:=jr kvs p.1 p.2
  rw[rO,ZY]
  omega
theorem kt_merged{H:Hp}{more:List (List Key×V)}{ys:List (List Key×Addr×Value)}(r:KT H more ys):∀{kvs:List (List Key×V)} {xs:List (List Key×Addr×Value)},KT H kvs xs->KT H (putAll kvs more) (kS xs ys):=by
 induction r with
 | nil=>intro kvs xs r;exact r
 | @cons p q ps qs f t ih=>
  intro kvs xs r
  have z:=r.put p.1 (b:=q.2.1) f.2.1 f.2.2
  have z2:=ih z
  rw[show kS xs (q::qs)=kS (storedH xs q.1 q.2.1 q.2.2) qs from rfl,<-show p.1=q.1 from f.1]
  exact z2
theorem Ip{more:List (Z×V)}{ys:List (Z×Value)}(r:KV more ys):∀{kvs:List (Z×V)} {xs:List (Z×Value)},KV kvs xs->KV (putAll kvs more) (merged xs ys):=by
 induction r with
 | nil=>intro kvs xs r;exact r
 | @cons p q ps qs f t ih=>
  intro kvs xs r
  have z:=ih (KV.put r p.1 f.2)
  rw[show merged xs (q::qs)=merged (stored xs q.1 q.2) qs from rfl,<-show p.1=q.1 from f.1]
  exact z
end
section
variable{X:Cx}{c_:Qqz}{Z:St}{H:Hp}{s:Shared}{a b:Addr}{A:Around}{E:Qqq}
theorem Mv{kvs:List (List Key×V)}{xs:List (List Key×Addr×Value)}(r:KT H kvs xs)(k:List Key):KT H (jZ kvs k) (Eu xs k):=by
 induction r with
 | nil=>exact .nil
 | @cons p q ps qs f t ih=>
  unfold jZ Eu
  by_cases e:p.1=k
  ·have e':q.1=k:=f.1.symm.trans e
   rw[aab (by simp[e]),aab (by simp[e'])]
   exact ih
  ·have e':¬q.1=k:=λz=>e (f.1.trans z)
   rw[ZT (by simp[e]),ZT (by simp[e'])]
   exact .cons f ih
theorem O8{kvs more:List (List Key×V)}{Q:Qqq}(hu:A.units+1<cLine)(I:Inv X c_ Z H s)(ha:H a=some (.dT kvs))(hb:Rd H b (.dT more))(ne:a≠b)(h0:kvs≠[])(hz:kvs.length+more.length<=sizeLine)
  (h:∀s',Inv X c_ Z (upd H a (.dT (putAll kvs more))) s'->Q .none s'):wpAny (model X.prog X.w) A (call (.builtin "dict.update") [.ref a,.ref b]) Q E s:=by
 obtain⟨z,lo,xs,rel,dd⟩:=JJ I.iM ha
 obtain⟨z2,Xy,ys,Ls,Xz⟩:=xQ I.iM hb
 have l1:=aak rel
 have l2:=aak Ls
 have x0:xs≠[]:=λe=>h0 (aaK.mp (by rw[l1,e];rfl))
 refine Ke (abA hu) ne Xy x0 dd Xz (by omega) λh' m hs=>h _ ?_
 obtain⟨q,es,ep,hq,h2,h3,h4,_,h5⟩:=m
 refine tE (t':=s.toks) I (by rw[ha];exact True.intro) hs ⟨q,hq⟩ ⟨aai (qv _ _) hz,lo,_,(kt_merged Ls rel).keeps λc ys ec=>?_,q,es,ep,hq,h2,h3,h4,h5⟩
 rw[e_ (i9 ec ha (λz=>nomatch z))]
 exact ec
theorem O9{kvs more:List (Key×V)}{Q:Qqq}(I:Inv X c_ Z H s)(ha:H a=some (.dK kvs))(hb:Rd H b (.dK more))(ne:a≠b)(hz:kvs.length+more.length<=sizeLine)
  (h:∀s',Inv X c_ Z (upd H a (.dK (putAll kvs more))) s'->Q .none s'):wpAny (model X.prog X.w) A (call (.builtin "dict.update") [.ref a,.ref b]) Q E s:=by
 obtain⟨z,lo,xs,rel,dd⟩:=JI I.iM ha
 obtain⟨z2,Xy,ys,Ls,Xz⟩:=xP I.iM hb
 have l1:=rel.length
 have l2:=Ls.length
 refine call_meetsIn abV dd.typeIs PySem.F.entry_dict_update (PySem.F.args_dict_update_2 _ _) (meets_dict_update (ji X.prog X.w) a b ne Xy) ⟨xs,ys,dd,Xz,by omega,λh' LQ _ hs=>h _ ?_⟩
 have he:∃q,h'.get? a=some q:=let ⟨q,_,_,hq,_⟩:=LQ;⟨q,hq⟩
 exact tE (t':=s.toks) I (by rw[ha];exact True.intro) hs he (FO (aai (qv _ _) hz) lo (Ip Ls rel) LQ)
theorem O_{kvs:List (List Key×V)}{k:List Key}{v:V}{Q:Qqq}(hu:A.units+1<cLine)(I:Inv X c_ Z H s)(ha:H a=some (.dT kvs))(hb:H b=some (.tup (k.map kV)))(l:iT kvs k=some v)
  (h:∀w' s',Inv X c_ Z (upd H a (.dT (jZ kvs k))) s'->RelV v w'->Q w' s'):wpAny (model X.prog X.w) A (call (.builtin "dict.pop") [.ref a,.ref b]) Q E s:=by
 obtain⟨z,lo,xs,rel,dd⟩:=JJ I.iM ha
 have l1:=aak rel
 obtain⟨w',hw,Bq⟩:=pM.some_of (v:=v) (o:=(atKey xs k).map (·.2)) (by rw[<-l];exact rel.val k)
 obtain⟨p,hp,A2⟩:=Option.map_eq_some_iff.mp hw
 obtain⟨od,Vs,epd,Vt,Cb,Rl,Tx,Vp,Qw⟩:=id dd
 refine abM ab8 dd.typeIs PySem.F.entry_dict_pop ?_ (PySem.F.args_dict_pop_2 _ _)
 unfold Builtin.«dict.pop» Builtin.Dict.keyAndDefault
 refine TN (TN (wpAny_notOrdered_dict dd.typeIs (show wpAny _ _ (pure (a,Value.ref b,none)) _ _ s from aaf ?_)))
 have part:(keyPart (Value.ref b)).isSome=false:=rfl
 simp only [part,aaR,abQ]
 refine TN (aa_ Vt Rl (TN (aaf ?_)))
 have ne:Vs.isEmpty=false:=by
  rw[abG]
  intro e
  have e:Vs=#[]:=Array.isEmpty_iff.mp e
  have sz:=acb Tx
  rw[e] at sz
  have:xs=[]:=aaK.mp sz.symm
  rw[this] at hp
  cases hp
 simp only [ne,aaR,abQ]
 refine TN (Kd (abA hu) (uy I.iM hb) dd (by omega) hp λh' m hs=>?_)
 simp only [Option.isNone_some,aaR,abQ]
 refine TN (wpAny_letGo (aaf ⟨p.2,rfl,?_⟩))
 rw[A2]
 refine h w' _ ?_ Bq
 obtain⟨q,es,ep,hq,h2,h3,h4,_,h5⟩:=m
 refine tE I (by rw[ha];exact True.intro) hs ⟨q,hq⟩ ⟨aai (Ek _ _) z,lo,_,(Mv rel k).keeps λc ys ec=>?_,q,es,ep,hq,h2,h3,h4,h5⟩
 rw[e_ (i9 ec ha (λz=>nomatch z))]
 exact ec
theorem Mw{d:Addr}{es:Array DictEntry}{ep:Nat}{Q:Qqq}{P:Program}{w:World}(lo:(d ==sysModules)=false)(r:wX s.heap d es ep)(fit:(es.size:Int)<2 ^ 63)
  (h:Q (.int es.size (s.toks+1)) {s with toks:=s.toks+1+1}):wpAny (model P w) A (Builtin.«len» ⟨[.ref d],[]⟩) (λfin s'=>∃r,fin=.done (.ret r)/\Q r s') E s:=by
 obtain⟨o,ho,hc,hd⟩:=id r
 unfold Builtin.«len»
 refine TN (m:=oneArg "len" _) (aaf (TN (m:=callSpecial? (.ref d) (Str.ofString "__len__")) (wpAny_callSpecial?_slot (name:=Str.ofString "__len__") r.ty F.slot_dict_len (abM F.slot_dict_len r.ty F.entry_dict_len ?_ (F.args_dict_len_1 _)))))
 show wpAny _ _ (dictSize d >>= _) _ _ s
 unfold dictSize
 refine TN (TN (aa_ ho hd (aaf ?_)))
 show wpAny _ _ (Builtin.Dict.pendingCount d >>= _) _ _ s
 refine TN (wpAny_pendingCount_other lo (wpAny_ret_mkInt ?_))
 show wpAny _ _ _ _ _ {s with toks:=s.toks+1}
 refine TN (abx (aaf (TN (wpAny_letGo ?_))))
 show wpAny _ _ (if((es.size+0:Nat):Int)<0 then _ else _) _ _ _
 rw[aac (by omega),Nat.add_zero]
 show wpAny _ _ (if((es.size:Nat):Int)>=2 ^ 63 then _ else _) _ _ _
 rw[aac (by omega)]
 exact TN (wpAny_mkInt (aaf ⟨_,rfl,h⟩))
theorem FX{d:Addr}{es:Array DictEntry}{ep:Nat}{Q:Bool->Shared->Prop}{P:Program}{w:World}(lo:(d ==sysModules)=false)(r:wX s.heap d es ep)(fit:(es.size:Int)<2 ^ 63)
  (h:Q ((es.size:Int) != 0) {s with toks:=s.toks+1+1}):wpAny (model P w) A (truthy (.ref d)) Q E s:=by
 have key:wpAny (model P w) A (runValue (.builtin "len" ⟨[.ref d],[]⟩)) (λr s'=>r=.int es.size (s.toks+1)/\Q ((es.size:Int) != 0) s') E s:=by
  refine wpAny_runValue (codeAny_builtin entry_len ?_)
  rw[Around.under_plainId plain_len _]
  refine abo (Mw (Q:=λr s'=>r=.int es.size (s.toks+1)/\Q ((es.size:Int) != 0) s') lo r fit ⟨rfl,h⟩) (λfin s' h'=>?_) λ_ _ e=>e
  obtain⟨r,rfl,hq⟩:=h'
  exact hq
 unfold truthy
 first
  | refine TN (wpAny_callSpecial?_none (name:=Str.ofString "__bool__") r.ty noBool_dict ?_)
  | refine TN (aaf (TN (wpAny_callSpecial?_none (name:=Str.ofString "__bool__") r.ty noBool_dict ?_)))
 first
  | refine TN (ab9 (name:=Str.ofString "__len__") r.ty F.slot_dict_len.lookup ?_)
  | refine TN (aaf (TN (ab9 (name:=Str.ofString "__len__") r.ty F.slot_dict_len.lookup ?_)))
 first
  | exact TN (abo key (λr s' h'=>by obtain⟨rfl,hq⟩:=h';exact aaf hq) λ_ _ e=>e)
  | exact TN (aaf (TN (abo key (λr s' h'=>by obtain⟨rfl,hq⟩:=h';exact aaf hq) λ_ _ e=>e)))
end
def Pa(td ty:TE):TE:=λZ H Q=>td Z H λx H1=>∃a,x=.ref a/\Q6 H1 a/\ty Z H1 λy H2=>∃b kvs more,y=.ref b/\H2 a=some (.dT kvs)/\Rd H2 b (.dT more)/\a≠b/\kvs≠[]/\kvs.length+more.length<=sizeLine/\Q .jg (upd H2 a (.dT (putAll kvs more)))
def Pb(td ty:TE):TE:=λZ H Q=>td Z H λx H1=>∃a,x=.ref a/\Q6 H1 a/\ty Z H1 λy H2=>∃b kvs more,y=.ref b/\H2 a=some (.dK kvs)/\Rd H2 b (.dK more)/\a≠b/\kvs.length+more.length<=sizeLine/\Q .jg (upd H2 a (.dK (putAll kvs more)))
def Pc(td ty:TE):TE:=λZ H Q=>td Z H λx H1=>∃a,x=.ref a/\Q6 H1 a/\ty Z H1 λy H2=>∃b kvs k v,y=.ref b/\H2 a=some (.dT kvs)/\H2 b=some (.tup (k.map kV))/\iT kvs k=some v/\Q v (upd H2 a (.dT (jZ kvs k)))
section
variable{X:Cx}{o e f:Expr}{apos kZ:Pos}{td ty tx:TE}
theorem Kf(hu:X.A.units+1<cLine)(ho:PE X o td)(he:PE X e ty)(m:M1 X o "update" apos e kZ):PE X (.Call (.Attribute o "update" apos) [e] [] kZ) (Pa td ty):=by
 intro c_ s Z H Q I h
 refine wpAny_Call_method m.base m.jS m.line abE abV PySem.F.type_dict_update (i8 (ho c_ s Z H _ I h) λu s1 iJ=>?_)
 obtain⟨x,H1,I1,rx,a,ex,d,q1⟩:=iJ
 subst ex
 obtain rfl:u=Value.ref a:=rx
 obtain⟨t1,t2,_⟩:=zu I1 d
 refine⟨t1,t2,?_⟩
 rw[m.trees]
 refine abe rfl (abp (abb (i8 (he c_ s1 Z H1 _ I1 q1) λiv s2 iJ=>?_)))
 obtain⟨y,H2,I2,ry,b,kvs,more,ey,ha,hb,ne,h0,hz,q2⟩:=iJ
 refine abv ?_
 subst ey
 obtain rfl:iv=Value.ref b:=ry
 exact O8 hu I2 ha hb ne h0 hz λs3 I3=>⟨.jg,_,I3,rfl,q2⟩
theorem Kg(ho:PE X o td)(he:PE X e ty)(m:M1 X o "update" apos e kZ):PE X (.Call (.Attribute o "update" apos) [e] [] kZ) (Pb td ty):=by
 intro c_ s Z H Q I h
 refine wpAny_Call_method m.base m.jS m.line abE abV PySem.F.type_dict_update (i8 (ho c_ s Z H _ I h) λu s1 iJ=>?_)
 obtain⟨x,H1,I1,rx,a,ex,d,q1⟩:=iJ
 subst ex
 obtain rfl:u=Value.ref a:=rx
 obtain⟨t1,t2,_⟩:=zu I1 d
 refine⟨t1,t2,?_⟩
 rw[m.trees]
 refine abe rfl (abp (abb (i8 (he c_ s1 Z H1 _ I1 q1) λiv s2 iJ=>?_)))
 obtain⟨y,H2,I2,ry,b,kvs,more,ey,ha,hb,ne,hz,q2⟩:=iJ
 refine abv ?_
 subst ey
 obtain rfl:iv=Value.ref b:=ry
 exact O9 I2 ha hb ne hz λs3 I3=>⟨.jg,_,I3,rfl,q2⟩
theorem Kh(hu:X.A.units+1<cLine)(ho:PE X o td)(he:PE X e ty)(m:M1 X o "pop" apos e kZ):PE X (.Call (.Attribute o "pop" apos) [e] [] kZ) (Pc td ty):=by
 intro c_ s Z H Q I h
 refine wpAny_Call_method m.base m.jS m.line abE ab8 PySem.F.type_dict_pop (i8 (ho c_ s Z H _ I h) λu s1 iJ=>?_)
 obtain⟨x,H1,I1,rx,a,ex,d,q1⟩:=iJ
 subst ex
 obtain rfl:u=Value.ref a:=rx
 obtain⟨t1,t2,_⟩:=zu I1 d
 refine⟨t1,t2,?_⟩
 rw[m.trees]
 refine abe rfl (abp (abb (i8 (he c_ s1 Z H1 _ I1 q1) λiv s2 iJ=>?_)))
 obtain⟨y,H2,I2,ry,b,kvs,k,v,ey,ha,hb,l,q2⟩:=iJ
 refine abv ?_
 subst ey
 obtain rfl:iv=Value.ref b:=ry
 exact O_ hu I2 ha hb l λw' s3 I3 Bq=>⟨v,_,I3,Bq,q2⟩
theorem Iq{a:Expr}{ta:TE}(ha:PE X a ta)(he:∀whole,isTrue a X.env whole=(do let v <-whole;standAt a.pos;holding [v] (truthy v))) :
  PT X a (λZ H Q=>ta Z H λx H'=>∃p kvs,x=.ref p/\H' p=some (.dT kvs)/\Q (!kvs.isEmpty) H'):=by
 intro c_ s Z H Q I h
 refine isTrue_plain (i8 (ha c_ s Z H _ I h) λv s1 iJ=>?_) (he _)
 obtain⟨x,H1,I1,r1,p,kvs,ex,hp,q⟩:=iJ
 subst ex
 obtain rfl:v=Value.ref p:=r1
 obtain⟨lo,hz,es,ep,raw,sz,_⟩:=zF (I1.iM p _ hp)
 have hs:sizeLine=16777216:=acm
 refine FX lo raw (by omega) ?_
 have e:((es.size:Int) != 0)=!kvs.isEmpty:=by rw[sz];cases kvs<;>simp<;>omega
 rw[e]
 exact⟨H1,I1.tok _,q⟩
end
theorem Ir:bootBuiltins "enumerate"=some (.type "enumerate"):=by decide+kernel
section
variable{X:Cx}{c_:Qqz}{Z:St}{H:Hp}{s:Shared}{h':Heap}
theorem Inv.Mx{t':Nat}{a b:Addr}(I:Inv X c_ Z H s)(k:∀c o,c≠a->c≠b->s.heap.get? c=some o->h'.get? c=some o)(fa:uw X c_ H a)(fb:uw X c_ H b)
  (ha:∃o,h'.get? a=some o) (hb:∃o,h'.get? b=some o):Inv X c_ Z H {s with heap:=h',toks:=t'}:=by
 obtain⟨a0,a1,a2,a3,a4,a5⟩:=fa
 obtain⟨b0,b1,b2,b3,b4,b5⟩:=fb
 have na:∀c u,H c=some u->c≠a:=λc u e z=>by rw[z,a0] at e;cases e
 have nb:∀c u,H c=some u->c≠b:=λc u e z=>by rw[z,b0] at e;cases e
 have out:∀c,c∉[a,b]->c≠a/\c≠b:=λc hc=>⟨λz=>hc (by simp[z]),λz=>hc (by simp[z])⟩
 refine I.step (g':=s.gens) (d':=s.drawn) (ch:=[a,b]) (λc hc=>?_) (λc o _ _ hc e _=>k c o (out c hc).1 (out c hc).2 e) (λc o _ _ hc e _=>⟨o.slots,k c o (out c hc).1 (out c hc).2 e⟩) (λ_ _ _ _ n=>n)
  (λc o hc e=>⟨o,k c o (out c hc).1 (out c hc).2 e⟩) (λ_ _ e=>e) (λ_ _ _ e=>e) (λc ps e=>⟨#[],by rw[e];simp⟩) (λm hm=>?_) (λc u e=>?_) I.bare
 ·rcases XH.mp hc with z|z
  ·rw[z];exact⟨a3,a1,a4,a5⟩
  ·rw[WO.mp z];exact⟨b3,b1,b4,b5⟩
 ·obtain⟨o,es,ep,ho,r⟩:=hm
  exact⟨o,es,ep,k _ o (abD a1) (abD b1) ho,r⟩
 ·refine(I.iM c u e).zi (λd v hd q=>k d v ?_ ?_ q) (λ_ q=>q) λ_ _ q=>q
  ·rcases hd with z|z
   ·rw[z];exact na c u e
   ·exact na d _ z
  ·rcases hd with z|z
   ·rw[z];exact nb c u e
   ·exact nb d _ z
end
def Sk(t:TT):TT:=λZ H Q=>∃M:Bool->Hp->Prop,t Z H M/\∀b H',M b H'->Q b H'
theorem FY{X:Cx}{e:Expr}{t:TT}(h:PT X e t):PT X e (Sk t):=λc_ s Z H Q I ⟨M,h1,h2⟩=>i8 (h c_ s Z H M I h1) λb s' ⟨H',I',q⟩=>⟨H',I',h2 b H' q⟩
def Sl(K:Qqy)(a:Addr):It:=
 ⟨λi H=>∃xs x,gO K H a xs/\xs[i]?=some x,λi H x H'=>∃t y,H t=none/\x=.ref t/\H'=upd H t (.tup [.int i,y])/\∀xs,gO K H a xs->xs[i]?=some y,λi H=>∃xs,gO K H a xs/\xs.length<=i⟩
theorem Iu{P:Program}{w:World}{K:Qqy}{elts:List Expr}{x1}{pos:Pos}(a e it:Addr)(qo:e≠it):Turn P w K (.Tuple elts x1 pos) (Sl K a) [e,it] e (λi h=>(∃old,IsEnum h e it ((i:Nat):Int) old)/\h.IsListIter it a i) where
 mem:=by simp
 obj:=λi h ⟨⟨old,Ji⟩,Bp⟩ b hb=>by
  rcases XH.mp hb with z|z
  ·subst z;exact⟨_,Ji,λv z=>by have z':Data.fields _=Data.cell v:=z;cases z'⟩
  ·rw[WO.mp z]
   obtain⟨o,ho,c,d⟩:=Bp
   exact⟨o,ho,λv z=>by rw[d] at z;cases z⟩
 keep:=λi h h' ⟨⟨old,Ji⟩,Bp⟩ k=>⟨⟨old,k e (by simp) _ Ji⟩,Bp.at λo ho=>k it (by simp) o ho⟩
 item:=by
  intro X hP hw hK hc i c_ s Z H E I hf ⟨⟨old,Ji⟩,Bp⟩ hg
  subst hP hw hK
  obtain⟨xs,x,hq,hx⟩:=hg
  obtain⟨gU,rv,p,hz⟩:=I.list hq
  obtain⟨u,hu,ru⟩:=rv.get hx
  have fe:=hf e (by simp)
  have fi:=hf it (by simp)
  have XA:e<s.heap.objs.size:=aas Ji
  refine wpAny_pyNext_enum_item Ji Bp p.isList (x:=u) (by simpa using hu) qo λh₁ Lk XC ht1 hz1 hk1=>?_
  refine⟨_,rfl,?_⟩
  refine wpAny_letOwnedTupleGo_enum Lk λh₂ he2 TC=>?_
  replace TC:Heap.SameBut e h₁ h₂:=TC
  have ht2:h₂.get? s.heap.objs.size=some {cls:=.type "tuple",data:=.seq #[.int i s.toks,u]}:=(TC.2 _ (Nat.ne_of_gt XA)).trans ht1
  have TF:h₂.IsListIter it a (i+1):=XC.extBut TC.extBut (abD qo)
  have hfr:H s.heap.objs.size=none:=I.iM.fresh (WR _)
  have rT:Vals [.int i,x] [.int i s.toks,u]:=.cons ⟨s.toks,rfl⟩ (.cons ru .nil)
  have I1:Inv X c_ Z (upd H s.heap.objs.size (.tup [.int i,x])) {s with heap:=s.heap.push {cls:=.type "tuple",data:=.seq #[.int i s.toks,u]},toks:=s.toks}:=
   I.laid (t':=s.toks) (λb u e=>aaj _ e) (WR _) ⟨L2.jS,_,rT,⟨_,aax _ rfl,rfl,_,rfl⟩⟩
  have up:∀b,uw X c_ H b->b<s.heap.objs.size->uw X c_ (upd H s.heap.objs.size (.tup [.int i,x])) b:=λb f hb=>by
   obtain⟨f0,r⟩:=f
   exact⟨by rw[e_ (aaJ hb)];exact f0,r⟩
  have Rm:it<s.heap.objs.size:=by obtain⟨o,ho,_⟩:=id Bp;exact aas ho
  obtain⟨oi,Vv,_⟩:=id TF
  have I2:=I1.Mx (h':=h₂) (t':=s.toks+1) (a:=e) (b:=it) (λc o h1 h2 hc=>?_) (up e fe XA) (up it fi Rm) ⟨_,he2⟩ ⟨oi,Vv⟩
  ·refine⟨.ref s.heap.objs.size,_,I2,rfl,⟨_,x,hfr,rfl,rfl,λys hy=>by rw[I.pP hy hq];exact hx⟩,⟨⟨u,?_⟩,TF⟩,λb hb=>?_⟩
   ·have:((i+1:Nat):Int)=(i:Int)+1:=by push_cast;rfl
    rw[this];exact he2
   ·rcases XH.mp hb with z|z
    ·subst z;exact(up _ fe XA).1
    ·rw[WO.mp z];exact(up it fi Rm).1
  ·by_cases hcs:c=s.heap.objs.size
   ·subst hcs
    have:(s.heap.push {cls:=.type "tuple",data:=.seq #[.int i s.toks,u]}).get? s.heap.objs.size=some {cls:=.type "tuple",data:=.seq #[.int i s.toks,u]}:=aax _ rfl
    rw[this] at hc;cases hc
    exact ht2
   ·have Bo:s.heap.get? c=some o:=(Heap.get?_push_cases hc).elim (λz=>absurd z.1 hcs) id
    exact(TC.2 c h1).trans (hk1 c o h1 h2 Bo)
 done:=by
  intro X hP hw hK hc i c_ s Z H E I hf ⟨⟨old,Ji⟩,Bp⟩ hg
  subst hP hw hK
  obtain⟨xs,hq,hx⟩:=hg
  obtain⟨gU,rv,p,hz⟩:=I.list hq
  obtain⟨f0,f1,f2,f3,f4,f5⟩:=hf it (by simp)
  have hl:=rv.length
  exact wpAny_pyNext_enum_end (I.ok.hd hc) Ji Bp p.isList (Array.getElem?_eq_none (by simp;omega)) λh' eb=>⟨rfl,I.turned (t':=s.toks) (λb o hb e=>eb b o hb e) f0 f1 f3 f4 f5⟩
 self:=λ_ _ _ _ _ ⟨⟨old,Ji⟩,Bp⟩ h=>wpAny_pyIter_enum Ji h
def Sm(K:Qqy)(ta:TA):TI:=λZ H R=>ta Z H λvs H1=>∃a,vs=[.ref a]/\(∃xs,gO K H1 a xs)/\R (Sl K a) H1
section
variable{X:Cx}
theorem My{a:Expr}{ta:TA}{p pos:Pos}{elts:List Expr}{x1}{Qp:Pos}(hg:Gl X "enumerate")(hm:X.mg "enumerate"=none)(ha:PA X [a] ta)(hs:starEach [a] X.env=[(false,eval a X.env)]:=by rfl):PI X (.Tuple elts x1 Qp) (.Call (.Name "enumerate" p) [a] [] pos) (Sm X.K ta):=by
 intro c_ s Z H R I h
 refine Call_ (pe I hg hm Ir (aa1 (i8 (ha pos c_ s Z H _ I h) λus s1 iJ=>?_) hs rfl))
 obtain⟨vs,H1,I1,r1,q1⟩:=iJ
 obtain⟨l,rfl,⟨xs,hq⟩,q⟩:=q1
 obtain⟨u,rfl,ru⟩:=vals1 r1
 cases (show u=Value.ref l from ru)
 obtain⟨gU,rv,pp,hz⟩:=I1.list hq
 refine call_enumerate_list pp.isList λh' he hit hsz hk=>?_
 have I2:Inv X c_ Z H1 {s1 with heap:=h'}:=I1.kept (t':=s1.toks) hk
 refine wpAny_pyIter_enum he ?_
 refine⟨s1.heap.objs.size+1,[s1.heap.objs.size+1,s1.heap.objs.size],_,_,H1,rfl,I2,Iu l (s1.heap.objs.size+1) s1.heap.objs.size (Nat.succ_ne_self _),⟨⟨_,he⟩,hit⟩,λb hb=>?_,q⟩
 rcases XH.mp hb with z|z
 ·subst z;exact I1.zj (by omega) (I1.iM.fresh (by omega))
 ·rw[WO.mp z];exact I1.zj (WR _) (I1.iM.fresh (WR _))
theorem Ki{K:PySem.W.Frag}{a:Addr}{xs:List V}{g:TG}{tb:TS}{D:Ends}{Z:St}{H:Hp}(Pv:Nat->St->Hp->Prop)(h0:Pv 0 Z H)(hl:∀i Z H,i<=xs.length->Pv i Z H->gO K H a xs)
  (hs:∀i x t Z H,xs[i]?=some x->Pv i Z H->H t=none->g (.ref t) Z (upd H t (.tup [.int i,x])) λZ2 H2=>tb {D with nx:=Pv (i+1),ct:=Pv (i+1),bk:=D.nx} Z2 H2) (hd:∀Z H,Pv xs.length Z H->D.nx Z H) :
  ∃W:Nat->Nat->St->Hp->Prop,(∃m,W 0 m Z H)/\∀i m Z H,W i m Z H->
   ((Sl K a).stop i H/\D.nx Z H)\/((Sl K a).go i H/\∃N:St->Hp->Prop,(∀Z' H',N Z' H'->∃m',m'<m/\W (i+1) m' Z' H')/\∀x H',(Sl K a).Jx i H x H'->g x Z H' λZ2 H2=>tb {D with nx:=N,ct:=N,bk:=D.nx} Z2 H2):=by
 refine⟨λi m Z H=>m=xs.length-i/\i<=xs.length/\Pv i Z H,⟨xs.length,by simp,aaI _,h0⟩,?_⟩
 rintro i m Z H ⟨rfl,hi,p⟩
 have q:=hl i Z H hi p
 by_cases jT:i<xs.length
 ·refine .inr ⟨⟨xs,xs[i],q,TH jT⟩,Pv (i+1),λZ' H' p'=>⟨xs.length-(i+1),by omega,rfl,jT,p'⟩,λx H' y=>?_⟩
  obtain⟨t,z,ht,rfl,rfl,y⟩:=y
  exact hs i z t Z _ (y xs q) p ht
 ·have e:i=xs.length:=by omega
  subst e
  exact .inl ⟨⟨xs,q,WR _⟩,hd Z H p⟩
end
structure DF(K:Qqy)(mg:Qqx)(x:Str)(st:Stmt)(a:Addr)(d:FuncData)(ps:List Str):Prop where
 f:xR K x x st a d
 b:Binds K d ps []
 m:mg x=some (.ref a)
structure DM(K:Qqy)(C:Addr)(x q:Str)(st:Stmt)(a:Addr)(d:FuncData)(ps:List Str):Prop where
 f:xR K x q st a d
 b:Binds K d ps []
 t:Meth K C x a
def FI(K:Qqy)(x:Str)(st:Stmt)(f:Addr):Prop:=W.nsIn K mainGlobals x=some (some (.ref f))/\∃d,xR K x x st f d
def MI(K:Qqy)(C:Addr)(x q:Str)(st:Stmt)(f:Addr):Prop:=Meth K C x f/\∃d,xR K x q st f d
section
variable{K:Qqy}{x q:Str}{st:Stmt}{f C:Addr}{oc kV doc pm jt ct:Value}{od an:Option Addr}{Jn:Array (Option Value)}
theorem Sn(a:W.nsIn K mainGlobals x=some (some (.ref f)))(l:K.lookup f=some ⟨oc,od,.func (W.fnOf x x (oI st) (lh st) (gr st) .none kV doc pm an jt ct),Jn⟩)(c:W.codeIn K jt x=true)(k:W.keepIn K (.ref f)=true):FI K x st f:=⟨a,_,JP l c k⟩
theorem So(a:W.findIn K (.ref C) x=some (some (.ref f)))(i:W.isFn K (.ref f)=true)(l:K.lookup f=some ⟨oc,od,.func (W.fnOf x q (oI st) (lh st) (gr st) .none kV doc pm an jt ct),Jn⟩)(c:W.codeIn K jt q=true)(k:W.keepIn K (.ref f)=true):MI K C x q st f:=⟨⟨a,i,k⟩,_,JP l c k⟩
end
theorem Kj{X:Cx}{st:Stmt}{t:TS}(h:PS X st t):PS X st (λD Z H=>∃d o u,H d=some (.nB o u)/\zE X d/\t D Z (upd H d u)):=λc_ s Z H D I ⟨d,o,u,hd,nf,q⟩=>h c_ s Z _ D (I.wV hd nf) q
noncomputable def ZX(N P:List Str)(sc:Scope):Bool:=decide (sc.kind=.function)&&!sc.isCoroutine&&!sc.isGenerator&&decide N.Nodup&&decide (N.take P.length=P)&&P.all (λx=>decide (sc.names.lookup x=some .local)||decide (sc.names.lookup x=some .cell))&&sc.names.all (λy=>decide (y.2≠.free))
theorem mR{N P:List Str}{sc:Scope}(h:ZX N P sc=true:=by decide+kernel):gH N P sc:=by
 unfold ZX at h
 simp only [aa8,abU,Bool.not_eq_true',abq,ab_] at h
 obtain⟨⟨⟨⟨⟨⟨a,b⟩,c⟩,d⟩,e⟩,f⟩,g⟩:=h
 exact⟨a,b,c,d,e,f,g⟩
section
variable{X:Cx}{x q m:Str}{st:Stmt}{f C:Addr}{fd:FuncData}{ps:List Str}{sp:Sp}{k j:Nat}{e o:Expr}{es:List Expr}{t:TA}{ta:TE}{p pos apos:Pos}{E:XK}
theorem oM(D:DF X.K X.mg x st f fd ps)(F:il X.prog X.w X.K X.mg X.base mD k f fd ps sp)(hr:kI j X.A)(ha:PA X (e::es) t)(hk:k<=j:=by decide)(hg:Gl X x:=by rfl)(GA:(x ==("__debug__":Str))=false:=by decide)(he:starEach (e::es) X.env=(false,eval e X.env)::starEach es X.env:=by rfl)(qU:(backTo pos (starEach es X.env)).any (·.1)=false:=by rfl):PE X (.Call (.Name x p) (e::es) [] pos) (JC sp [] E0 t):=vj F (hr.mono hk) hg D.m D.f.kp D.b .nil pR ha GA he qU
theorem WU(b:Bx X E)(D:DF X.K X.mg x st f fd ps)(F:il X.prog X.w X.K X.mg X.base (tX X.prog X.w) k f fd ps sp)(hr:kI j X.A)(ha:PA X (e::es) t)(hk:k<=j:=by decide)(hg:Gl X x:=by rfl)(GA:(x ==("__debug__":Str))=false:=by decide)(he:starEach (e::es) X.env=(false,eval e X.env)::starEach es X.env:=by rfl)(qU:(backTo pos (starEach es X.env)).any (·.1)=false:=by rfl):PE X (.Call (.Name x p) (e::es) [] pos) (JC sp [] E t):=vj F (hr.mono hk) hg D.m D.f.kp D.b .nil (NR b) ha GA he qU
theorem zH{pl:Sem Bool}(h:PE X o ta)(c:Fx X.K C)(D:DM X.K C m q st f fd ps)(F:il X.prog X.w X.K X.mg X.base mD k f fd ps sp)(hr:kI j X.A)(ha:PA X (e::es) t)(hk:k<=j:=by decide)(xy:starEach (e::es) X.env=(false,eval e X.env)::starEach es X.env:=by rfl)(qU:(backTo pos (starEach es X.env)).any (·.1)=false:=by rfl)
 (ht:eval (.Call (.Attribute o m apos) (e::es) [] pos) X.env=(do
  let ov <-eval o X.env
  standAt apos.atName
  let (f,first) <-holding [ov] (getMethod ov m pl)
  callWith pos f first (backTo pos (starEach (e::es) X.env)) (backToKw pos (keywordEach [] X.env))):=by rfl):PE X (.Call (.Attribute o m apos) (e::es) [] pos) (G1 C m sp [] E0 ta t):=G2 h c D.t F (hr.mono hk) D.b .nil pR ha xy qU ht
theorem zI(b:Bx X E){pl:Sem Bool}(h:PE X o ta)(c:Fx X.K C)(D:DM X.K C m q st f fd ps)(F:il X.prog X.w X.K X.mg X.base (tX X.prog X.w) k f fd ps sp)(hr:kI j X.A)(ha:PA X (e::es) t)(hk:k<=j:=by decide)(xy:starEach (e::es) X.env=(false,eval e X.env)::starEach es X.env:=by rfl)(qU:(backTo pos (starEach es X.env)).any (·.1)=false:=by rfl)
 (ht:eval (.Call (.Attribute o m apos) (e::es) [] pos) X.env=(do
  let ov <-eval o X.env
  standAt apos.atName
  let (f,first) <-holding [ov] (getMethod ov m pl)
  callWith pos f first (backTo pos (starEach (e::es) X.env)) (backToKw pos (keywordEach [] X.env))):=by rfl):PE X (.Call (.Attribute o m apos) (e::es) [] pos) (G1 C m sp [] E ta t):=G2 h c D.t F (hr.mono hk) D.b .nil (NR b) ha xy qU ht
end
section
variable{P:Program}{w:World}{K:Qqy}{mg:Qqx}{base:Heap}
theorem xR.q_{x qual:Str}{st:Stmt}{f:Addr}{fd:FuncData}{N ps:List Str}{k:Nat}{sp:Sp}(F:xR K x qual st f fd)(S:gH N ps (gr st))(wq:∀(jt:Value)(A:Around)(outer:List Env)(s:Shared)(H:Hp)(vs:List V)(Q:VK)(E:XK),kI k (A.deeper (envOfC qual (gr st) s.heap.objs.size f jt))->sp vs H Q E->∃t,Fw (wL mD P w K mg base N qual (gr st) f jt A outer s H E).RN (lh st) t/\t {nx:=λ_ H'=>Q .jg H',rt:=Q} (start N vs) H)(len:∀vs H Q E,sp vs H Q E->vs.length=ps.length:=by intro _ _ _ _ h;repeat (first|(obtain⟨rfl,_⟩:=h;rfl)|obtain⟨_,h⟩:=h)):il P w K mg base mD (k+1) f fd ps sp:=F.ok S len wq
theorem xR.rE{x qual:Str}{st:Stmt}{f:Addr}{fd:FuncData}{N ps:List Str}{k:Nat}{sp:Sp}(F:xR K x qual st f fd)(S:gH N ps (gr st))(wq:∀(jt:Value)(A:Around)(outer:List Env)(s:Shared)(H:Hp)(vs:List V)(Q:VK)(E:XK),kI k (A.deeper (envOfC qual (gr st) s.heap.objs.size f jt))->sp vs H Q E->∃t,Fw (wL (tX P w) P w K mg base N qual (gr st) f jt A outer s H E) (lh st) t/\t {nx:=λ_ H'=>Q .jg H',rt:=Q} (start N vs) H)(len:∀vs H Q E,sp vs H Q E->vs.length=ps.length:=by intro _ _ _ _ h;repeat (first|(obtain⟨rfl,_⟩:=h;rfl)|obtain⟨_,h⟩:=h)):il P w K mg base (tX P w) (k+1) f fd ps sp:=F.ok1 S len wq
end
section
variable{X:Cx}{pos:Pos}
theorem k8(i:Nat){x:Str}{e:Expr}{te:TE}{pos':Pos}{N ps:List Str}{sc:Scope}(S:gH N ps sc)(he:PE X e te)(hN:X.N=N:=by rfl)(hi:X.N[i]?=some x:=by rfl)(hx:X.env.scope.names.lookup x=some .local:=by rfl)(hs:swapsWith e (some (.Name x pos')) pos.line X.env=pure false:=by rfl):PS X (.Assign [.Name x pos'] e pos) (Jw te (nE i)):=mS (hN▸S.nd) hi (.inl hx) he hs (.inr hx)
theorem rF(i:Nat){x:Str}{N ps:List Str}{sc:Scope}(S:gH N ps sc)(hN:X.N=N:=by rfl)(hi:X.N[i]?=some x:=by rfl)(hx:X.env.scope.names.lookup x=some .local:=by rfl):PG X (.Name x pos) (nE i):=iK (hN▸S.nd) hi (.inl hx) (.inr hx)
end
section
variable{K:Qqy}
theorem xR.bd{x qual:Str}{st:Stmt}{f:Addr}{fd:FuncData}{ps:List Str}(F:xR K x qual st f fd)(h:∀(kV doc pm:Value)(an:Option Addr)(jt ct:Value)(us:List Value),us.length=ps.length->bindArgs (W.fnOf x qual (oI st) (lh st) (gr st) .none kV doc pm an jt ct) ⟨us,[]⟩=pure (ps.zip us):=by intro _ _ _ _ _ _ us hl;(repeat (rcases us with _|⟨_,us⟩<;>first|(simp at hl;done)|skip));rfl):Binds K fd ps []:=F.binds h
end
section
variable{X:Cx}{a b:Expr}{ta tb:TE}{pos:Pos}{k:Nat}
theorem lC(ha:PE X a ta)(hb:PE X b tb)(hs:G5 b:=by exact λ_ _=>rfl):PE X (.Subscript a b pos) (RX (R6 X.K) ta tb):=jH kQ ha hb hs
theorem zJ(hr:kI k X.A)(ha:PE X a ta)(hb:PE X b tb)(hs:OS b:=by exact λ_ _=>rfl):PE X (.Subscript a b pos) (NP ta tb):=Mh (iZ hr) ha hb hs
theorem CD(h:PE X a ta)(e:ta=tb:=by(try simp only [lH]);rfl):∃t,PE X a t/\t=tb:=⟨_,h,e⟩
end
end L2
namespace K01
section
variable{Z:Type}[DecidableEq Z]
def lcs:List Z->List Z->Nat
 | [],_=>0
 | _::_,[]=>0
 | a::as,b::bs=>if b=a then lcs as bs+1 else max (lcs as (b::bs)) (lcs (a::as) bs)
termination_by x y=>x.length+y.length
def nZ(x y:List Z)(n:Nat):Prop:=(∀s:List Z,s.Sublist x->s.Sublist y->s.length<=n)/\∃s:List Z,s.Sublist x/\s.Sublist y/\s.length=n
theorem nZ.uniq{x y:List Z}{n m:Nat}(h:nZ x y n)(g:nZ x y m):n=m:=by
 obtain⟨h1,s,a,b,e⟩:=h
 obtain⟨g1,t,c,d,f⟩:=g
 have:=g1 s a b
 have:=h1 t c d
 omega
theorem nZ.Ey(y:List Z):nZ [] y 0:=⟨λs a _=>by have:=a.length_le;simpa using this,[],aaD _,List.nil_sublist _,rfl⟩
theorem nZ.BN(x:List Z):nZ x [] 0:=⟨λs _ b=>by have:=b.length_le;simpa using this,[],List.nil_sublist _,aaD _,rfl⟩
theorem lJ{s as:List Z}{a:Z}(h:s.Sublist (a::as)):s.Sublist as\/∃t,s=a::t/\t.Sublist as:=by
 cases h with
 | cons _ h=>exact .inl h
 | cons_cons _ h=>exact .inr ⟨_,rfl,h⟩
theorem nZ.eq{as bs:List Z}{a:Z}{n:Nat}(h:nZ as bs n):nZ (a::as) (a::bs) (n+1):=by
 obtain⟨h1,s,x,y,e⟩:=h
 refine⟨λt c d=>?_,a::s,x.cons_cons a,y.cons_cons a,by rw[ZY,e]⟩
 rcases lJ c with c2|⟨u,e2,c2⟩
 ·rcases lJ d with d2|⟨v,e3,d2⟩
  ·have:=h1 t c2 d2;omega
  ·subst e3
   have:=h1 v ((abr a v).trans c2) d2
   rw[ZY];omega
 ·have d':u.Sublist bs:=by
   subst e2
   rcases lJ d with d2|⟨v,e',d2⟩
   ·exact(abr a u).trans d2
   ·cases e';exact d2
  have:=h1 u c2 d'
  subst e2
  rw[ZY];omega
theorem nZ.ne{as bs:List Z}{a b:Z}{n m:Nat}(GD:a≠b)(h:nZ as (b::bs) n)(g:nZ (a::as) bs m):nZ (a::as) (b::bs) (max n m):=by
 obtain⟨h1,s,x,y,e⟩:=h
 obtain⟨g1,s',x',y',e'⟩:=g
 refine⟨λt c d=>?_,?_⟩
 ·rcases lJ c with c'|⟨u,rfl,_⟩
  ·have:=h1 t c' d;omega
  ·rcases lJ d with d'|⟨v,e,_⟩
   ·have:=g1 _ c d';omega
   ·cases e;exact absurd rfl GD
 ·by_cases Qx:m<=n
  ·exact⟨s,x.cons a,y,by omega⟩
  ·exact⟨s',x',y'.cons b,by omega⟩
theorem j6:∀x y:List Z,nZ x y (lcs x y)
 | [],y=>by rw[lcs];exact .Ey y
 | a::as,[]=>by rw[lcs];exact .BN _
 | a::as,b::bs=>by
  rw[lcs]
  by_cases h:b=a
  ·rw[aan h];subst h;exact(j6 as bs).eq
  ·rw[aac h];exact .ne (λe=>h e.symm) (j6 as (b::bs)) (j6 (a::as) bs)
termination_by x y=>x.length+y.length
theorem Mz(x:List Z):lcs x []=0:=(j6 x []).uniq (.BN x)
theorem G9(y:List Z):lcs [] y=0:=(j6 [] y).uniq (.Ey y)
theorem zK{x x' y y':List Z}(h:x.Sublist x')(g:y.Sublist y'):lcs x y<=lcs x' y':=by
 obtain⟨_,s,a,b,e⟩:=j6 x y
 rw[<-e]
 exact(j6 x' y').1 s (a.trans h) (b.trans g)
theorem Ez(x y:List Z):lcs x y<=x.length:=by
 obtain⟨_,s,a,b,e⟩:=j6 x y
 rw[<-e];exact a.length_le
noncomputable def jb(a:Z)(new:List Z)(j:Nat):Option Nat:=((new.drop j).findIdx? (·=a)).map (j+·)
noncomputable def pS(new:List Z):Nat->List Z->Nat->List (Nat×Nat)
 | _,[],_=>[]
 | i,a::as,j=>match jb a new j with
  | none=>pS new (i+1) as j
  | some k=>if lcs as (new.drop (k+1))+1=lcs (a::as) (new.drop j) then(i,k)::pS new (i+1) as (k+1) else pS new (i+1) as j
noncomputable def kept(old new:List Z):List (Nat×Nat):=pS new 0 old 0
theorem kJ{a:Z}{new:List Z}{j k:Nat}(h:jb a new j=some k):j<=k/\new[k]?=some a/\∀l,j<=l->l<k->new[l]?≠some a:=by
 unfold jb at h
 cases e:(new.drop j).findIdx? (·=a) with
 | none=>rw[e] at h;cases h
 | some d=>
  rw[e] at h
  have h:j+d=k:=aaz h
  subst h
  obtain⟨hd,h1,h2⟩:=List.findIdx?_eq_some_iff_getElem.mp e
  have h1:(new.drop j)[d]=a:=by simpa using h1
  refine⟨Nat.le_add_right _ _,?_,λl hl hk q=>?_⟩
  ·rw[<-ab4,TH hd,h1]
  ·have:=h2 (l-j) (by omega)
   have hq:(new.drop j)[l-j]?=some a:=by rw[ab4,show j+(l-j)=l by omega];exact q
   obtain⟨hh,he⟩:=List.getElem?_eq_some_iff.mp hq
   simp[he] at this
theorem n1{a:Z}{new:List Z}{j:Nat}(h:jb a new j=none):∀l,j<=l->new[l]?≠some a:=by
 unfold jb at h
 cases e:(new.drop j).findIdx? (·=a) with
 | some d=>rw[e] at h;cases h
 | none=>
  intro l hl q
  have hq:(new.drop j)[l-j]?=some a:=by rw[ab4,show j+(l-j)=l by omega];exact q
  have:=List.findIdx?_eq_none_iff.mp e a (WW hq)
  simp at this
theorem Kk{a:Z}{as y:List Z}(h:a∉y):lcs (a::as) y=lcs as y:=by
 refine(j6 (a::as) y).uniq ⟨λs c d=>?_,?_⟩
 ·rcases lJ c with c|⟨t,rfl,c⟩
  ·exact(j6 as y).1 s c d
  ·exact absurd (d.subset aap) h
 ·obtain⟨_,s,c,d,e⟩:=j6 as y
  exact⟨s,c.cons a,d,e⟩
theorem qw{new:List Z}{k:Nat}{a:Z}(h:new[k]?=some a):new.drop k=a::new.drop (k+1):=by
 obtain⟨hk,e⟩:=List.getElem?_eq_some_iff.mp h
 rw[aaP hk,e]
theorem zL{new:List Z}{j k:Nat}(h:j<=k):(new.drop k).Sublist (new.drop j):=by
 have:new.drop k=(new.drop j).drop (k-j):=by rw[List.drop_drop];congr 1;omega
 rw[this];exact List.drop_sublist _ _
theorem CF{a:Z}{as new:List Z}{j l:Nat}(hl:j<=l)(h:new[l]?=some a):lcs as (new.drop (l+1))+1<=lcs (a::as) (new.drop j):=by
 have:lcs (a::as) (new.drop l)<=lcs (a::as) (new.drop j):=zK (aaD _) (zL hl)
 rw[qw h,lcs,aan rfl] at this
 exact this
theorem zM{a:Z}{as new:List Z}{j k:Nat}(h:jb a new j=some k)(qo:lcs as (new.drop (k+1))+1≠lcs (a::as) (new.drop j)):lcs (a::as) (new.drop j)=lcs as (new.drop j):=by
 obtain⟨TJ,hk,Nu⟩:=kJ h
 have h1:=CF (as:=as) TJ hk
 have h2:lcs as (new.drop j)<=lcs (a::as) (new.drop j):=zK (abr a as) (aaD _)
 obtain⟨hs,s,c,d,e⟩:=j6 (a::as) (new.drop j)
 rcases lJ c with c2|⟨t,es,c2⟩
 ·have:=(j6 as (new.drop j)).1 s c2 d;omega
 ·exfalso
  subst es
  have key:∀(n:Nat)(j:Nat),k-j=n->j<=k->(∀l,j<=l->l<k->new[l]?≠some a)->(a::t).Sublist (new.drop j)->t.Sublist (new.drop (k+1)):=by
   intro n
   induction n with
   | zero=>
    intro j e1 e2 _ d
    have:j=k:=by omega
    subst this
    rw[qw hk] at d
    rcases lJ d with d|⟨u,e,d⟩
    ·exact(abr a t).trans d
    ·cases e;exact d
   | succ n ih=>
    intro j e1 e2 hm d
    have hj:j<new.length:=by
     have:=(List.getElem?_eq_some_iff.mp hk).1;omega
    rw[aaP hj] at d
    rcases lJ d with d|⟨u,e,_⟩
    ·exact ih (j+1) (by omega) (by omega) (λl hl=>hm l (by omega)) d
    ·exfalso
     have e0:a=new[j]:=(List.cons.inj e).1
     exact hm j (WR _) (by omega) (by rw[TH hj,<-e0])
  have ht:=key _ j rfl TJ Nu d
  have:=(j6 as (new.drop (k+1))).1 t c2 ht
  rw[ZY] at e
  omega
theorem Iv{a:Z}{as new:List Z}{j:Nat}(h:jb a new j=none):lcs (a::as) (new.drop j)=lcs as (new.drop j):=by
 refine Kk λm=>?_
 obtain⟨l,hl⟩:=aaG.mp m
 rw[ab4] at hl
 exact n1 h (j+l) (Nat.le_add_right _ _) hl
theorem lL(new:List Z):∀(old:List Z)(i j:Nat),(pS new i old j).length=lcs old (new.drop j)
 | [],i,j=>by rw[pS,G9];rfl
 | a::as,i,j=>by
  unfold pS
  cases h:jb a new j with
  | none=>simp only;rw[lL new as,Iv h]
  | some k=>
   simp only
   by_cases hc:lcs as (new.drop (k+1))+1=lcs (a::as) (new.drop j)
   ·rw[aan hc,ZY,lL new as];exact hc
   ·rw[aac hc,lL new as,zM h hc]
inductive Good(old new:List Z):Nat->Nat->List (Nat×Nat)->Prop
 | nil (i j):Good old new i j []
 | cons {i j p q r} (h1:i<=p) (h2:j<=q) (a:Z) (e1:old[p]?=some a) (e2:new[q]?=some a)
  (h3:∀l m,i<=l->l<=p->j<=m->(l<p\/m<q)->∀b,old[l]?=some b->new[m]?=some b->¬r.length<=lcs (old.drop (l+1)) (new.drop (m+1)))
  (t:Good old new (p+1) (q+1) r):Good old new i j ((p,q)::r)
theorem Good.back{old new:List Z}{i j:Nat}{a:Z}{r:List (Nat×Nat)}(ha:old[i]?=some a)(hl:r.length=lcs (old.drop (i+1)) (new.drop j))(hn:∀m,j<=m->new[m]?=some a->lcs (old.drop (i+1)) (new.drop (m+1))+1≠r.length/\lcs (old.drop (i+1)) (new.drop (m+1))+1<=r.length)
  (h:Good old new (i+1) j r):Good old new i j r:=by
 cases h with
 | nil=>exact .nil _ _
 | @cons _ _ p q r h1 h2 b e1 e2 h3 t=>
  refine .cons (by omega) h2 b e1 e2 (λl m XD HH hm jT c c1 c2 hle=>?_) t
  by_cases e:l=i
  ·subst e
   rw[ha] at c1
   cases c1
   have z:=hn m hm c2
   rw[ZY] at z
   omega
  ·exact h3 l m (by omega) HH hm jT c c1 c2 hle
theorem qx{old new:List Z}:∀(rest:List Z)(i j:Nat),old.drop i=rest->Good old new i j (pS new i rest j)
 | [],i,j,_=>by rw[pS];exact .nil _ _
 | a::as,i,j,e=>by
  have ha:old[i]?=some a:=by
   have:(old.drop i)[0]?=some a:=by rw[e];rfl
   rwa [ab4,Nat.add_zero] at this
  have e':old.drop (i+1)=as:=by
   have:=qw ha;rw[e] at this;exact(List.cons.inj this).2.symm
  have L:=lL new as (i+1) j
  unfold pS
  cases h:jb a new j with
  | none=>
   simp only
   refine Good.back ha (by rw[L,e']) (λm hm q=>absurd q (n1 h m hm)) (qx as (i+1) j e')
  | some k=>
   obtain⟨TJ,hk,Nu⟩:=kJ h
   simp only
   by_cases hc:lcs as (new.drop (k+1))+1=lcs (a::as) (new.drop j)
   ·rw[aan hc]
    refine .cons (WR _) TJ a ha hk (λl m XD HH hm jT b c1 c2 _=>?_) (qx as (i+1) (k+1) e')
    have:l=i:=by omega
    subst this
    rw[ha] at c1
    cases c1
    exact Nu m hm (by omega) c2
   ·rw[aac hc]
    have S:=zM h hc
    refine Good.back ha (by rw[L,e']) (λm hm q=>?_) (qx as (i+1) j e')
    rw[L,e',<-S]
    have h1:=CF (as:=as) hm q
    refine⟨λz=>?_,h1⟩
    have hkm:k<=m:=by
     rcases Nat.lt_or_ge m k with z'|z'
     ·exact absurd q (Nu m hm z')
     ·exact z'
    have h2:lcs as (new.drop (m+1))<=lcs as (new.drop (k+1)):=zK (aaD _) (zL (by omega))
    have h3:=CF (as:=as) TJ hk
    omega
theorem Iw(old new:List Z):Good old new 0 0 (kept old new):=qx old 0 0 rfl
theorem xU(old new:List Z):(kept old new).length=lcs old new:=lL new old 0 0
def pre(old new:List Z)(i k:Nat):Nat:=lcs (old.take i) (new.take k)
noncomputable def wY(old new:List Z)(i j:Nat):Nat:=lcs (old.drop i) (new.drop j)
theorem y9{old new:List Z}{i j:Nat}(h:old.length<=i\/new.length<=j):wY old new i j=0:=by
 unfold wY
 rcases h with h|h
 ·rw[List.drop_eq_nil_of_le h,G9]
 ·rw[List.drop_eq_nil_of_le h,Mz]
theorem MA{old new:List Z}{i j:Nat}{a b:Z}(ha:old[i]?=some a)(hb:new[j]?=some b) :
  wY old new i j=if b=a then wY old new (i+1) (j+1)+1 else max (wY old new (i+1) j) (wY old new i (j+1)):=by
 unfold wY
 rw[qw ha,qw hb,lcs,<-qw ha,<-qw hb]
end
end K01
namespace PM
open PySem
abbrev Nm:=Str×Nat
structure Ln where
 nm:Nm
 tx:Str
 up:Option Nm
 lo:Option Nm
 deriving DecidableEq
structure Pt where
 nm:Str
 file:Option Str
 iE:List Ln
 jx:List Nm
 other:Option Str
 deriving DecidableEq
noncomputable def n4:List Pt->List Str->List Pt
 | [],_=>[]
 | p::r,t=>if p.nm∈t then n4 r t else p::n4 r (match p.other with|some o=>o::t|none=>t)
noncomputable def live(ps:List Pt):List Pt:=(n4 ps.reverse []).reverse
def gR(ps:List Pt)(f:Str):List Ln:=(ps.filter λp=>p.file=some f).flatMap (·.iE)
def gone(ps:List Pt):List Nm:=ps.flatMap (·.jx)
noncomputable def mF(ps:List Pt)(f:Str):List Ln:=(gR (live ps) f).filter λl=>l.nm∉gone (live ps)
theorem wZ:∀(ps:List Pt)(t:List Str),(n4 ps t).Sublist ps
 | [],_=>aaD _
 | p::r,t=>by
  unfold n4
  split
  ·exact(wZ r t).cons p
  ·exact(wZ r _).cons_cons p
theorem EA(ps:List Pt):(live ps).Sublist ps:=by
 have:=(wZ ps.reverse []).reverse
 rwa [List.reverse_reverse] at this
theorem CG{ps qs:List Pt}(h:ps.Sublist qs)(f:Str):(gR ps f).Sublist (gR qs f):=by
 unfold gR
 have h:=h.filter (λp=>decide (p.file=some f))
 generalize ps.filter _=a at h
 generalize qs.filter _=b at h
 induction h with
 | slnil=>exact aaD _
 | cons x _ ih=>rw[aaE];exact ih.trans (aa3 _ _)
 | cons_cons x _ ih=>rw[aaE,aaE];exact(aaD _).append ih
theorem lM(ps:List Pt)(f:Str):(mF ps f).Sublist (gR ps f):=
 aaV.trans (CG (EA ps) f)
def Sa(ls:List Ln)(m n:Nm):Prop:=∃l∈ls,(l.nm=n/\l.up=some m)\/(l.nm=m/\l.lo=some n)
inductive Ah(ls:List Ln):Nm->Nm->Prop
 | one {m n}:Sa ls m n->Ah ls m n
 | Q_ {m k n}:Ah ls m k->Sa ls k n->Ah ls m n
theorem Sa.mono{l1 l2:List Ln}(h:∀l∈l1,l∈l2){m n:Nm}(a:Sa l1 m n):Sa l2 m n:=by
 obtain⟨l,hl,q⟩:=a
 exact⟨l,h l hl,q⟩
theorem Ah.mono{l1 l2:List Ln}(h:∀l∈l1,l∈l2){m n:Nm}(a:Ah l1 m n):Ah l2 m n:=by
 induction a with
 | one x=>exact .one (x.mono h)
 | Q_ _ x ih=>exact .Q_ ih (x.mono h)
theorem Ah.last{ls:List Ln}{m n:Nm}:Ah ls m n↔Sa ls m n\/∃k,Ah ls m k/\Sa ls k n:=by
 constructor
 ·intro h
  cases h with
  | one x=>exact .inl x
  | Q_ a x=>exact .inr ⟨_,a,x⟩
 ·rintro(x|⟨k,a,x⟩)
  ·exact .one x
  ·exact .Q_ a x
def Rk(ls:List Ln)(rk:Nm->Nat):Prop:=∀l∈ls,(∀m,l.up=some m->rk m<rk l.nm)/\(∀m,l.lo=some m->rk l.nm<rk m)
def Kl(ls:List Ln):Prop:=∃rk,Rk ls rk
theorem Rk.sa{ls:List Ln}{rk:Nm->Nat}(r:Rk ls rk){m n:Nm}(h:Sa ls m n):rk m<rk n:=by
 obtain⟨l,hl,⟨rfl,e⟩|⟨rfl,e⟩⟩:=h
 ·exact(r l hl).1 m e
 ·exact(r l hl).2 n e
theorem Rk.ah{ls:List Ln}{rk:Nm->Nat}(r:Rk ls rk){m n:Nm}(h:Ah ls m n):rk m<rk n:=by
 induction h with
 | one x=>exact r.sa x
 | Q_ _ x ih=>exact Nat.lt_trans ih (r.sa x)
def qy(ls:List Ln):Prop:=∀l∈ls,(∀m,l.up=some m->m∈ls.map (·.nm))/\(∀m,l.lo=some m->m∈ls.map (·.nm))
theorem qy.sa{ls:List Ln}(c:qy ls){m n:Nm}(h:Sa ls m n):m∈ls.map (·.nm)/\n∈ls.map (·.nm):=by
 obtain⟨l,hl,⟨rfl,e⟩|⟨rfl,e⟩⟩:=h
 ·exact⟨(c l hl).1 m e,YO hl⟩
 ·exact⟨YO hl,(c l hl).2 n e⟩
theorem qy.ah{ls:List Ln}(c:qy ls){m n:Nm}(h:Ah ls m n):m∈ls.map (·.nm)/\n∈ls.map (·.nm):=by
 induction h with
 | one x=>exact c.sa x
 | Q_ _ x ih=>exact⟨ih.1,(c.sa x).2⟩
section
open Classical
variable(lt:Nm->Nm->Prop)
noncomputable def free(ls:List Ln)(l:Ln):Bool:=decide (∀o∈ls,¬lt o.nm l.nm)
noncomputable def rf:Nat->List Ln->List Ln
 | 0,_=>[]
 | n+1,ls=>match ls.find? (free lt ls) with
  | none=>[]
  | some l=>l::rf n (ls.filter λo=>o.nm≠l.nm)
noncomputable def rowOf(ls:List Ln):List Ln:=rf lt ls.length ls
def ltAt(row:List Ln)(i j:Nat):Prop:=∃a b,row[i]?=some a/\row[j]?=some b/\lt a.nm b.nm
noncomputable def ki(row:List Ln):List (Nat×Nat):=
 (List.range row.length).flatMap λi=>((List.range' (i+1) (row.length-(i+1))).filter λj=>decide (¬ltAt lt row i j)).map λj=>(i,j)
variable{lt}
theorem rP{rk:Nm->Nat}(hr:∀m n,lt m n->rk m<rk n):∀(ls:List Ln),ls≠[]->∃l,ls.find? (free lt ls)=some l:=by
 intro ls hn
 have least:∀(xs:List Ln),xs≠[]->∃l∈xs,∀o∈xs,rk l.nm<=rk o.nm:=by
  intro xs
  induction xs with
  | nil=>intro h;exact absurd rfl h
  | cons x r ih=>
   intro _
   by_cases h:r=[]
   ·subst h;exact⟨x,by simp,λo ho=>by simp at ho;rw[ho];exact WR _⟩
   ·obtain⟨l,hl,hm⟩:=ih h
    by_cases hx:rk x.nm<=rk l.nm
    ·refine⟨x,by simp,λo ho=>?_⟩
     rcases XH.mp ho with rfl|ho
     ·exact WR _
     ·exact aai hx (hm o ho)
    ·refine⟨l,aaa _ hl,λo ho=>?_⟩
     rcases XH.mp ho with rfl|ho
     ·omega
     ·exact hm o ho
 obtain⟨l,hl,hm⟩:=least ls hn
 have hf:free lt ls l=true:=WV λo ho jT=>by have:=hr _ _ jT;have:=hm o ho;omega
 cases e:ls.find? (free lt ls) with
 | some x=>exact⟨x,rfl⟩
 | none=>exact absurd hf (by have:=List.find?_eq_none.mp e l hl;simpa using this)
theorem l9{ls:List Ln}(nd:(ls.map (·.nm)).Nodup){l:Ln}(hl:l∈ls):(ls.filter λo=>o.nm≠l.nm).length+1=ls.length:=by
 induction ls with
 | nil=>cases hl
 | cons x r ih=>
  rw[aat,aaW] at nd
  rcases XH.mp hl with rfl|hl
  ·have e:r.filter (λo=>decide (o.nm≠l.nm))=r:=List.filter_eq_self.mpr λo ho=>WV λz=>nd.1 (z▸YO ho)
   rw[aab (by simp),e,ZY]
  ·have hx:x.nm≠l.nm:=λz=>nd.1 (z▸YO hl)
   rw[ZT (by simpa using hx),ZY,ZY,ih nd.2 hl]
theorem mV{ls:List Ln}(nd:(ls.map (·.nm)).Nodup)(p:Ln->Bool):((ls.filter p).map (·.nm)).Nodup:=(aaV.map _).nodup nd
theorem uC{rk:Nm->Nat}(hr:∀m n,lt m n->rk m<rk n):∀(n:Nat)(ls:List Ln),n=ls.length->(ls.map (·.nm)).Nodup->(rf lt n ls).Perm ls
 | 0,ls,e,_=>by
  have:ls=[]:=aaK.mp e.symm
  subst this;exact List.Perm.refl _
 | n+1,ls,e,nd=>by
  have hn:ls≠[]:=λz=>by subst z;cases e
  obtain⟨l,hf⟩:=rP hr ls hn
  have hl:l∈ls:=List.mem_of_find?_eq_some hf
  unfold rf
  rw[hf]
  have hlen:=l9 nd hl
  have ih:=uC hr n (ls.filter λo=>o.nm≠l.nm) (by omega) (mV nd _)
  refine(ih.cons l).trans ?_
  clear ih hf hlen e hn
  induction ls with
  | nil=>cases hl
  | cons x r ih=>
   rw[aat,aaW] at nd
   rcases XH.mp hl with rfl|hl
   ·have e:r.filter (λo=>decide (o.nm≠l.nm))=r:=List.filter_eq_self.mpr λo ho=>WV λz=>nd.1 (z▸YO ho)
    rw[aab (by simp),e]
   ·have hx:x.nm≠l.nm:=λz=>nd.1 (z▸YO hl)
    rw[ZT (by simpa using hx)]
    exact(List.Perm.swap _ _ _).trans ((ih nd.2 hl).cons x)
theorem FZ{rk:Nm->Nat}(hr:∀m n,lt m n->rk m<rk n){ls:List Ln}(nd:(ls.map (·.nm)).Nodup):(rowOf lt ls).Perm ls:=uC hr _ ls rfl nd
theorem vy{rk:Nm->Nat}(hr:∀m n,lt m n->rk m<rk n):∀(n:Nat)(ls:List Ln),n=ls.length->(ls.map (·.nm)).Nodup->(rf lt n ls).Pairwise λa b=>¬lt b.nm a.nm
 | 0,ls,_,_=>List.Pairwise.nil
 | n+1,ls,e,nd=>by
  have hn:ls≠[]:=λz=>by subst z;cases e
  obtain⟨l,hf⟩:=rP hr ls hn
  have hl:l∈ls:=List.mem_of_find?_eq_some hf
  have hlen:=l9 nd hl
  unfold rf
  rw[hf]
  refine List.Pairwise.cons (λb hb=>?_) (vy hr n _ (by omega) (mV nd _))
  have hb:=(uC hr n (ls.filter λo=>o.nm≠l.nm) (by omega) (mV nd _)).subset hb
  have hp:=List.find?_some hf
  exact aah hp b (aal.mp hb).1
theorem CH{rk:Nm->Nat}(hr:∀m n,lt m n->rk m<rk n){ls:List Ln}(nd:(ls.map (·.nm)).Nodup):(rowOf lt ls).Pairwise λa b=>¬lt b.nm a.nm:=vy hr _ ls rfl nd
end
def EB(sf:Nm->List Nm)(S:List Nm)(x:Nm):List Nm:=(sf x).filter λy=>y∉S
inductive Run(sf:Nm->List Nm)(B:Nat):Nat->List Nm->List Nm->Prop
 | nil {S}:Run sf B 0 [] S
 | skip {n x st S}:x∈S->(x::st).length<=B->Run sf B n st S->Run sf B (n+1) (x::st) S
 | fin {n x st S}:x∉S->EB sf S x=[]->(x::st).length<=B->Run sf B n st (S++[x])->Run sf B (n+1) (x::st) S
 | push {n x st S}:x∉S->EB sf S x≠[]->(x::st).length<=B->Run sf B n ((EB sf S x).reverse++x::st) S->Run sf B (n+1) (x::st) S
theorem CI{sf:Nm->List Nm}{S:List Nm}{x:Nm}:EB sf S x=[]↔∀y∈sf x,y∈S:=by
 unfold EB
 rw[List.filter_eq_nil_iff]
 exact⟨λh y hy=>by simpa using h y hy,λh y hy=>by simpa using h y hy⟩
theorem MB{sf:Nm->List Nm}{B N:Nat}(cr:Nm->Nat)(hN:∀x,(sf x).length<=N)(hc:∀x y,y∈sf x->cr y<cr x):∀(k:Nat)(x:Nm),cr x<=k->∀(st S:List Nm),st.length+1+N*cr x<=B->
  (∀S',(∀y∈S,y∈S')->x∈S'->∃n,Run sf B n st S')->∃n,Run sf B n (x::st) S:=by
 intro k
 induction k with
 | zero=>
  intro x hx st S hB go
  by_cases hm:x∈S
  ·obtain⟨n,r⟩:=go S (λ_ h=>h) hm
   exact⟨n+1,.skip hm (by rw[ZY];omega) r⟩
  ·have e:EB sf S x=[]:=CI.mpr λy hy=>by have:=hc x y hy;omega
   obtain⟨n,r⟩:=go (S++[x]) (λ_ h=>aad _ h) (by simp)
   exact⟨n+1,.fin hm e (by rw[ZY];omega) r⟩
 | succ k ih=>
  intro x hx st S hB go
  have hlen:(x::st).length<=B:=by rw[ZY];omega
  by_cases hm:x∈S
  ·obtain⟨n,r⟩:=go S (λ_ h=>h) hm
   exact⟨n+1,.skip hm hlen r⟩
  ·by_cases e:EB sf S x=[]
   ·obtain⟨n,r⟩:=go (S++[x]) (λ_ h=>aad _ h) (by simp)
    exact⟨n+1,.fin hm e hlen r⟩
   ·
    have many:∀(ms:List Nm)(S0:List Nm),(∀y∈ms,y∈sf x)->ms.length<=N->(∀S',(∀y∈S0,y∈S')->(∀y∈ms,y∈S')->∃n,Run sf B n (x::st) S')->∃n,Run sf B n (ms++x::st) S0:=by
     intro ms
     induction ms with
     | nil=>intro S0 _ _ h;exact h S0 (λ_ z=>z) (λy hy=>by cases hy)
     | cons m r ihm=>
      intro S0 hs hl h
      have Ro:=hc x m (hs m aap)
      rw[ZY] at hl
      refine ih m (by omega) (r++x::st) S0 ?_ λS1 h1 Xw=>ihm S1 (λy hy=>hs y (aaa _ hy)) (by omega) λS2 h2 h3=>h S2 (λy hy=>h2 y (h1 y hy)) λy hy=>?_
      ·rw[XF,ZY]
       have:N*cr m+N<=N*cr x:=by rw[<-Nat.mul_succ];exact Nat.mul_le_mul_left N Ro
       omega
      ·rcases XH.mp hy with z|z
       ·rw[z];exact h2 m Xw
       ·exact h3 y z
    have xA:(EB sf S x).length<=N:=aai (aaN _ _) (hN x)
    have cont:∀S',(∀y∈S,y∈S')->(∀y∈(EB sf S x).reverse,y∈S')->∃n,Run sf B n (x::st) S':=λS' h1 h2=>by
     by_cases Qy:x∈S'
     ·obtain⟨n,r⟩:=go S' h1 Qy
      exact⟨n+1,.skip Qy hlen r⟩
     ·have e':EB sf S' x=[]:=CI.mpr λy hy=>by
       by_cases Vl:y∈S
       ·exact h1 y Vl
       ·exact h2 y (List.mem_reverse.mpr (aal.mpr ⟨hy,by simpa using Vl⟩))
      obtain⟨n,r⟩:=go (S'++[x]) (λy hy=>aad _ (h1 y hy)) (by simp)
      exact⟨n+1,.fin Qy e' hlen r⟩
    obtain⟨n,r⟩:=many (EB sf S x).reverse S (λy hy=>(aal.mp (List.mem_reverse.mp hy)).1) (by rw[abj];exact xA) cont
    exact⟨n+1,.push hm e hlen r⟩
def Ra(ls:List Ln)(rk:Nm->Nat)(n:Nm):Nat:=(ls.filter λl=>rk l.nm<rk n).length
theorem Pd(ls:List Ln)(rk:Nm->Nat)(n:Nm):Ra ls rk n<=ls.length:=aaN _ _
theorem Pe{ls:List Ln}{rk:Nm->Nat}{m n:Nm}(hm:m∈ls.map (·.nm))(h:rk m<rk n):Ra ls rk m<Ra ls rk n:=by
 unfold Ra
 have mono:∀{a b:Ln->Bool} {xs:List Ln},(∀x∈xs,a x=true->b x=true)->(xs.filter a).length<=(xs.filter b).length:=by
  intro a b xs GD
  induction xs with
  | nil=>exact WR _
  | cons x r ih=>
   have ih:=ih λy hy=>GD y (aaa _ hy)
   by_cases ha:a x=true
   ·rw[ZT ha,ZT (GD x aap ha),ZY,ZY];omega
   ·rw[aab ha]
    by_cases hb:b x=true
    ·rw[ZT hb,ZY];omega
    ·rw[aab hb];exact ih
 obtain⟨l,hl,rfl⟩:=aaA.mp hm
 obtain⟨a,b,rfl⟩:=List.append_of_mem hl
 rw[aaH,aaH,XF,XF]
 rw[aab (by simp),ZT (by simpa using h),ZY]
 have h1:=mono (a:=λx:Ln=>decide (rk x.nm<rk l.nm)) (b:=λx=>decide (rk x.nm<rk n)) (xs:=a) λx _ hx=>by simp at hx ⊢;omega
 have h2:=mono (a:=λx:Ln=>decide (rk x.nm<rk l.nm)) (b:=λx=>decide (rk x.nm<rk n)) (xs:=b) λx _ hx=>by simp at hx ⊢;omega
 omega
theorem len_sub{xs ys:List Nm}(nd:xs.Nodup)(h:∀x∈xs,x∈ys):xs.length<=ys.length:=by
 induction xs generalizing ys with
 | nil=>exact aaI _
 | cons a r ih=>
  rw[aaW] at nd
  obtain⟨p,q,rfl⟩:=List.append_of_mem (h a aap)
  have:=ih (ys:=p++q) nd.2 λz hz=>by
   have:=h z (aaa _ hz)
   rcases ZU.mp this with w|w
   ·exact aad _ w
   ·rcases XH.mp w with w|w
    ·exact absurd (w▸hz) nd.1
    ·exact aay _ w
  rw[XF] at this
  rw[ZY,XF,ZY]
  omega
theorem Km{ls:List Ln}(cl:qy ls)(tp:Kl ls){sf:Nm->List Nm}(hs:∀n,(sf n).Nodup/\∀m,m∈sf n↔Sa ls m n)(x:Nm)(S:List Nm):∃n,Run sf (1+ls.length*ls.length) n [x] S:=by
 obtain⟨rk,hr⟩:=tp
 have XE:∀n,(sf n).length<=ls.length:=λn=>by
  have:=len_sub (ys:=ls.map (·.nm)) (hs n).1 λy hy=>(cl.sa (((hs n).2 y).mp hy)).1
  rw[Ob] at this
  exact this
 refine MB (N:=ls.length) (Ra ls rk) XE (λx y hy=>?_) _ x (WR _) [] S ?_ λS' _ _=>⟨0,.nil⟩
 ·have h:=((hs x).2 y).mp hy
  exact Pe (cl.sa h).1 (hr.sa h)
 ·have:=Nat.mul_le_mul_left ls.length (Pd ls rk x)
  show 0+1+ls.length*Ra ls rk x<=1+ls.length*ls.length
  omega
def Iy(n m:Nat)(qs:List (Nat×Nat)):Prop:=qs.Pairwise (λa b=>a.1<b.1/\a.2<b.2)/\∀q∈qs,q.1<n/\q.2<m
theorem Iz{Z:Type}[DecidableEq Z]{old new:List Z}{i j:Nat}{qs:List (Nat×Nat)}(g:K01.Good old new i j qs):Iy old.length new.length qs/\∀q∈qs,i<=q.1/\j<=q.2:=by
 induction g with
 | nil=>exact⟨⟨List.Pairwise.nil,λq hq=>by cases hq⟩,λq hq=>by cases hq⟩
 | @cons i j p q r h1 h2 a e1 e2 h3 t ih=>
  obtain⟨⟨h4,h5⟩,h6⟩:=ih
  refine⟨⟨List.Pairwise.cons (λb hb=>?_) h4,λb hb=>?_⟩,λb hb=>?_⟩
  ·have:=h6 b hb
   exact⟨by show p<b.1;omega,by show q<b.2;omega⟩
  ·rcases XH.mp hb with rfl|hb
   ·exact⟨(List.getElem?_eq_some_iff.mp e1).1,(List.getElem?_eq_some_iff.mp e2).1⟩
   ·exact h5 b hb
  ·rcases XH.mp hb with rfl|hb
   ·exact⟨h1,h2⟩
   ·have:=h6 b hb
    omega
theorem tG{Z:Type}[DecidableEq Z](old new:List Z):Iy old.length new.length (K01.kept old new):=(Iz (K01.Iw old new)).1
noncomputable def mW(row:List Ln):List (Nat×Nat)->Nat->Option Nm
 | [],_=>none
 | q::r,s=>if q.2=s then(row[q.1]?).map (·.nm) else mW row r s
def uD(row:List Ln)(qs:List (Nat×Nat)):List Nm:=qs.filterMap λq=>(row[q.1]?).map (·.nm)
theorem CJ{row:List Ln}{qs:List (Nat×Nat)}{s:Nat}{m:Nm}(h:mW row qs s=some m):∃q∈qs,q.2=s/\∃l,row[q.1]?=some l/\l.nm=m:=by
 induction qs with
 | nil=>cases h
 | cons q r ih=>
  unfold mW at h
  by_cases e:q.2=s
  ·rw[aan e] at h
   obtain⟨l,hl,e2⟩:=Option.map_eq_some_iff.mp h
   exact⟨q,aap,e,l,hl,e2⟩
  ·rw[aac e] at h
   obtain⟨q',hq,z⟩:=ih h
   exact⟨q',aaa _ hq,z⟩
theorem CK{row:List Ln}{m:Nat}:∀{qs:List (Nat×Nat)},Iy row.length m qs->∀s,(mW row qs s).isSome=decide (s∈qs.map (·.2))
 | [],_,s=>rfl
 | q::r,h,s=>by
  have hr:Iy row.length m r:=⟨(List.pairwise_cons.mp h.1).2,λx hx=>h.2 x (aaa _ hx)⟩
  unfold mW
  by_cases e:q.2=s
  ·rw[aan e,TH (h.2 q aap).1,WV (by rw[aat,e];exact aap)];rfl
  ·rw[aac e,CK hr s,aat]
   by_cases z:s∈r.map (·.2)
   ·rw[WV z,WV (aaa _ z)]
   ·rw[ZW z,ZW (λw=>(XH.mp w).elim (λw=>e w.symm) z)]
theorem MC{row:List Ln}{qs:List (Nat×Nat)}{m:Nat}{rk:Nm->Nat}(h:Iy row.length m qs)(hr:row.Pairwise λa b=>rk a.nm<rk b.nm){s t:Nat}{a b:Nm}(hs:mW row qs s=some a)(ht:mW row qs t=some b)(xy:s<t):rk a<rk b:=by
 obtain⟨q1,h1,e1,l1,r1,rfl⟩:=CJ hs
 obtain⟨q2,h2,e2,l2,r2,rfl⟩:=CJ ht
 have jT:q1.1<q2.1:=by
  obtain⟨i,hi,ei⟩:=List.mem_iff_getElem.mp h1
  obtain⟨j,hj,ej⟩:=List.mem_iff_getElem.mp h2
  have hp:=abh.mp h.1
  rcases Nat.lt_trichotomy i j with z|z|z
  ·have:=hp i j hi hj z;rw[ei,ej] at this;exact this.1
  ·subst z;rw[ei] at ej;subst ej;omega
  ·have:=hp j i hj hi z;rw[ei,ej] at this;omega
 obtain⟨g1,w1⟩:=List.getElem?_eq_some_iff.mp r1
 obtain⟨g2,w2⟩:=List.getElem?_eq_some_iff.mp r2
 have:=abh.mp hr _ _ g1 g2 jT
 rw[w1,w2] at this
 exact this
def MD(kn:Nat->Option Nm):Nat->Nat->Option Nm
 | 0,_=>none
 | k+1,i=>match kn (i+1) with|some m=>some m|none=>MD kn k (i+1)
noncomputable def tR(p:Str)(kn:Nat->Option Nm):Nat->Nat->Option Nm->List Str->List Ln
 | _,_,_,[]=>[]
 | i,j,u,t::r=>match kn i with
  | some m=>tR p kn (i+1) j (some m) r
  | none=>⟨(p,j),t,u,MD kn r.length i⟩::tR p kn (i+1) (j+1) (some (p,j)) r
noncomputable def kK(p:Str)(texts:List Str)(kn:Nat->Option Nm):List Ln:=tR p kn 0 0 none texts
noncomputable def mG(p f:Str)(row:List Ln)(texts:List Str):Pt:=
 ⟨p,some f,kK p texts (mW row (K01.kept (row.map (·.tx)) texts)),(row.filter λl=>l.nm∉uD row (K01.kept (row.map (·.tx)) texts)).map (·.nm),none⟩
theorem vz(p:Str)(kn:Nat->Option Nm):∀(r:List Str)(i j:Nat)(u:Option Nm),(tR p kn i j u r).map (·.nm)=(List.range' j (tR p kn i j u r).length).map λk=>(p,k)
 | [],_,_,_=>rfl
 | t::r,i,j,u=>by
  unfold tR
  cases h:kn i with
  | some m=>exact vz p kn r (i+1) j (some m)
  | none=>
   simp only [aat,ZY,ach]
   rw[vz p kn r (i+1) (j+1) (some (p,j))]
theorem zN(p:Str)(kn:Nat->Option Nm):∀(r:List Str)(i j:Nat)(u:Option Nm),(tR p kn i j u r).length=((List.range' i r.length).filter λk=>(kn k).isNone).length
 | [],_,_,_=>rfl
 | t::r,i,j,u=>by
  unfold tR
  rw[ZY,ach]
  cases h:kn i with
  | some m=>rw[aab (by simp[h])];exact zN p kn r (i+1) j (some m)
  | none=>rw[ZT (by simp[h]),ZY];simp only [ZY];rw[zN p kn r (i+1) (j+1) (some (p,j))]
theorem CL{kn:Nat->Option Nm}{m:Nm}:∀{k i:Nat},MD kn k i=some m->∃t,i<t/\t<=i+k/\kn t=some m
 | 0,_,h=>by cases h
 | k+1,i,h=>by
  unfold MD at h
  cases e:kn (i+1) with
  | some m'=>
   rw[e] at h
   cases h
   exact⟨i+1,by omega,by omega,e⟩
  | none=>
   rw[e] at h
   obtain⟨t,h1,h2,h3⟩:=CL (k:=k) (i:=i+1) h
   exact⟨t,by omega,by omega,h3⟩
theorem y_{p:Str}{kn:Nat->Option Nm}:∀(r:List Str)(i j:Nat)(u:Option Nm),∀l∈tR p kn i j u r,∀m,l.up=some m\/l.lo=some m->(u=some m\/∃t,kn t=some m)\/m∈(tR p kn i j u r).map (·.nm)
 | [],_,_,_,l,hl,_,_=>by cases hl
 | t::r,i,j,u,l,hl,m,hm=>by
  unfold tR at hl ⊢
  cases h:kn i with
  | some m'=>
   rw[h] at hl
   rcases y_ r (i+1) j (some m') l hl m hm with(z|z)|z
   ·exact .inl (.inr ⟨i,by rw[h];exact z⟩)
   ·exact .inl (.inr z)
   ·exact .inr z
  | none=>
   rw[h] at hl
   rcases XH.mp hl with rfl|hl
   ·rcases hm with hm|hm
    ·exact .inl (.inl hm)
    ·obtain⟨t,_,_,e⟩:=CL hm
     exact .inl (.inr ⟨t,e⟩)
   ·rcases y_ r (i+1) (j+1) (some (p,j)) l hl m hm with(z|z)|z
    ·cases z
     exact .inr (by rw[aat];exact aap)
    ·exact .inl (.inr z)
    ·exact .inr (aaa _ z)
def Kn(rk:Nm->Nat)(kn:Nat->Option Nm):Nat->Nat
 | 0=>0
 | i+1=>match kn i with|some m=>rk m+1|none=>Kn rk kn i
def WX(kn:Nat->Option Nm)(n j:Nat):Nat:=(((List.range n).filter λk=>(kn k).isNone)[j]?).getD 0
noncomputable def F_(rk:Nm->Nat)(kn:Nat->Option Nm)(p:Str)(n:Nat)(x:Nm):Nat:=if x.1=p then Kn rk kn (WX kn n x.2)*(n+1)+x.2+1 else(rk x+1)*(n+1)
theorem Ko{rk:Nm->Nat}{kn:Nat->Option Nm}(hk:∀s t a b,kn s=some a->kn t=some b->s<t->rk a<rk b):∀i t b,kn t=some b->i<=t->Kn rk kn i<=rk b
 | 0,_,_,_,_=>aaI _
 | i+1,t,b,h,hi=>by
  unfold Kn
  cases e:kn i with
  | some m=>exact hk i t m b e h (by omega)
  | none=>exact Ko hk i t b h (by omega)
theorem Pg{kn:Nat->Option Nm}{n i:Nat}(hi:i<n)(h:kn i=none):WX kn n ((List.range i).filter λk=>(kn k).isNone).length=i:=by
 unfold WX
 have e:List.range n=List.range i++i::List.range' (i+1) (n-(i+1)):=by
  have h1:List.range n=List.range i++(List.range' i (n-i)):=by
   have:=List.range'_append_1 (s:=0) (m:=i) (n:=n-i)
   rw[Nat.zero_add,show i+(n-i)=n by omega] at this
   rw[List.range_eq_range',List.range_eq_range',this]
  rw[h1,show n-i=(n-(i+1))+1 by omega,ach]
 rw[e,aaH,ZT (by simp[h]),aba (WR _),Nat.sub_self]
 rfl
theorem CM{rk:Nm->Nat}{kn:Nat->Option Nm}{p:Str}{n:Nat}(hk:∀s t a b,kn s=some a->kn t=some b->s<t->rk a<rk b)(hp:∀s a,kn s=some a->a.1≠p) :
  ∀(r:List Str)(i j:Nat)(u:Option Nm),i+r.length=n->j=((List.range i).filter λk=>(kn k).isNone).length->(∀m,u=some m->F_ rk kn p n m<=Kn rk kn i*(n+1)+j)->
   Rk (tR p kn i j u r) (F_ rk kn p n)
 | [],_,_,_,_,_,_=>λl hl=>by cases hl
 | t::r,i,j,u,hn,hj,hu=>by
  rw[ZY] at hn
  have N9:i<n:=by omega
  have Jk:j<=i:=by rw[hj];exact aai (aaN _ _) (by rw[abH];exact WR _)
  have e1:(List.range (i+1)).filter (λk=>(kn k).isNone)=(List.range i).filter (λk=>(kn k).isNone)++if(kn i).isNone then[i] else[]:=by
   rw[List.range_succ,aaH]
   congr 1
   cases h:(kn i).isNone<;>simp[h]
  unfold tR
  cases h:kn i with
  | some m=>
   refine CM hk hp r (i+1) j (some m) (by omega) (by rw[e1,h];simpa using hj) λm' e=>?_
   cases e
   unfold F_
   rw[aac (hp i m h),Kn.eq_2,h]
   show(rk m+1)*(n+1)<=(rk m+1)*(n+1)+j
   omega
  | none=>
   have Qz:F_ rk kn p n (p,j)=Kn rk kn i*(n+1)+j+1:=by
    unfold F_
    rw[aan rfl,hj,Pg N9 h]
   have hb:Kn rk kn (i+1)=Kn rk kn i:=by rw[Kn.eq_2,h]
   intro l hl
   rcases XH.mp hl with rfl|hl
   ·refine⟨λm hm=>?_,λm hm=>?_⟩
    ·have:=hu m hm
     show F_ rk kn p n m<F_ rk kn p n (p,j)
     omega
    ·obtain⟨t',ht1,TK,e⟩:=CL hm
     show F_ rk kn p n (p,j)<F_ rk kn p n m
     have hle:=Ko hk i t' m e (by omega)
     rw[Qz]
     unfold F_
     rw[aac (hp t' m e)]
     have h1:Kn rk kn i*(n+1)<=rk m*(n+1):=Nat.mul_le_mul_right _ hle
     have h2:(rk m+1)*(n+1)=rk m*(n+1)+(n+1):=Nat.succ_mul _ _
     omega
   ·refine CM hk hp r (i+1) (j+1) (some (p,j)) (by omega) (by rw[e1,h,hj];simp) (λm' e=>?_) l hl
    cases e
    rw[Qz,hb]
    omega
theorem Kq{rk:Nm->Nat}{kn:Nat->Option Nm}{p:Str}(hk:∀s t a b,kn s=some a->kn t=some b->s<t->rk a<rk b)(hp:∀s a,kn s=some a->a.1≠p)(texts:List Str):Rk (kK p texts kn) (F_ rk kn p texts.length):=
 CM hk hp texts 0 0 none (by omega) rfl λm e=>by cases e
theorem Kr{rk:Nm->Nat}{kn:Nat->Option Nm}{p:Str}{n:Nat}{ls:List Ln}(r:Rk ls rk)(h:∀l∈ls,l.nm.1≠p/\∀m,l.up=some m\/l.lo=some m->m.1≠p):Rk ls (F_ rk kn p n):=by
 intro l hl
 obtain⟨h1,h2⟩:=h l hl
 have e:∀x:Nm,x.1≠p->F_ rk kn p n x=(rk x+1)*(n+1):=λx hx=>by unfold F_;rw[aac hx]
 refine⟨λm hm=>?_,λm hm=>?_⟩
 ·rw[e _ h1,e _ (h2 m (.inl hm))]
  exact Nat.mul_lt_mul_of_pos_right (Nat.succ_lt_succ ((r l hl).1 m hm)) (Nat.succ_pos _)
 ·rw[e _ h1,e _ (h2 m (.inr hm))]
  exact Nat.mul_lt_mul_of_pos_right (Nat.succ_lt_succ ((r l hl).2 m hm)) (Nat.succ_pos _)
theorem EC{xs ys:List Nat}(nd:xs.Nodup)(h:∀x∈xs,x∈ys):xs.length<=ys.length:=by
 have:=len_sub (xs:=xs.map λk=>((Str.empty,k):Nm)) (ys:=ys.map λk=>(Str.empty,k)) (abI.mpr (nd.imp λh z=>h (aaQ Prod.snd z))) λx hx=>by
  obtain⟨k,hk,rfl⟩:=aaA.mp hx
  exact YO (h k hk)
 rwa [Ob,Ob] at this
theorem zO{Z:Type}(p:Z->Bool):∀xs:List Z,(xs.filter p).length+(xs.filter λx=>!p x).length=xs.length
 | []=>rfl
 | x::r=>by
  have:=zO p r
  cases h:p x<;>simp[h]<;>omega
theorem G_{row:List Ln}{texts:List Str}{qs:List (Nat×Nat)}(h:Iy row.length texts.length qs)(p:Str):(kK p texts (mW row qs)).length+qs.length=texts.length:=by
 unfold kK
 rw[zN,<-List.range_eq_range']
 have h2:=zO (λk=>(mW row qs k).isNone) (List.range texts.length)
 rw[abH] at h2
 have h3:((List.range texts.length).filter λx=>!(mW row qs x).isNone).length=qs.length:=by
  have nd:(qs.map (·.2)).Nodup:=abI.mpr (h.1.imp λz e=>by omega)
  refine Nat.le_antisymm ?_ ?_
  ·have:=EC (xs:=(List.range texts.length).filter λx=>!(mW row qs x).isNone) (ys:=qs.map (·.2)) (List.nodup_range.sublist aaV) λx hx=>by
    have h4:=(aal.mp hx).2
    have h5:(mW row qs x).isSome=true:=by cases e:mW row qs x<;>simp[e] at h4 ⊢
    rw[CK h] at h5
    exact aah h5
   rwa [Ob] at this
  ·have:=EC (xs:=qs.map (·.2)) (ys:=(List.range texts.length).filter λx=>!(mW row qs x).isNone) nd λx hx=>by
    refine aal.mpr ⟨abf.mpr ?_,?_⟩
    ·obtain⟨q,hq,rfl⟩:=aaA.mp hx
     exact(h.2 q hq).2
    ·have h5:=CK h x
     rw[WV hx] at h5
     cases e:mW row qs x<;>simp[e] at h5 ⊢
   rwa [Ob] at this
 omega
structure Dk where
 made:List Pt
 iD:Str->List Str
 stores:List Str
 held:Str->List Str
def named(p:Pt):List Nm:=p.jx++p.iE.flatMap λl=>l.up.toList++l.lo.toList
def ir(p:Pt):List Str:=((named p).filter λn=>n.1≠p.nm).map (·.1)++p.other.toList
def qz(nd:Str->List Str)(p:Pt):List Str:=(ir p).flatMap λy=>y::nd y
namespace Dk
def names(D:Dk):List Str:=D.made.map (·.nm)
noncomputable def keep(D:Dk)(s:Str)(p:Pt):Dk:=⟨D.made++[p],λx=>if x=p.nm then qz D.iD p else D.iD x,D.stores,λt=>if t=s then D.held s++[p.nm] else D.held t⟩
noncomputable def begin(D:Dk)(s:Str):Dk:=⟨D.made,D.iD,D.stores++[s],λt=>if t=s then[] else D.held t⟩
def pj(D:Dk)(s:Str):List Pt:=D.made.filter λp=>p.nm∈D.held s
def has(D:Dk)(s:Str):List Str:=D.names.filter λx=>x∈D.held s
def n5(D:Dk)(x:Str):List Str:=D.names.filter λy=>y∈D.iD x
def nO(D:Dk)(s x:Str):List Str:=(D.n5 x++[x]).filter λy=>y∉D.held s
def take(D:Dk)(s x:Str):Dk:=⟨D.made,D.iD,D.stores,λt=>if t=s then D.held s++D.nO s x else D.held t⟩
noncomputable def drop(D:Dk)(s x:Str):Dk:=⟨D.made,D.iD,D.stores,λt=>if t=s then(D.held s).filter (λy=>y≠x) else D.held t⟩
noncomputable def row(D:Dk)(s f:Str):List Ln:=rowOf (Ah (gR (D.pj s) f)) (mF (D.pj s) f)
noncomputable def oz(D:Dk)(s f:Str):List (Nat×Nat):=ki (Ah (gR (D.pj s) f)) (D.row s f)
theorem He(D:Dk)(s:Str):D.has s=(D.pj s).map (·.nm):=by
 unfold has pj names
 rw[List.filter_map];rfl
end Dk
structure Inv(D:Dk):Prop where
 nd:D.names.Nodup
 DU:∀p∈D.made,p.iE.map (·.nm)=(List.range p.iE.length).map λj=>(p.nm,j)
 refs:∀p∈D.made,∀l∈p.iE,∀m,l.up=some m\/l.lo=some m->∃q∈D.made,q.file=p.file/\m∈q.iE.map (·.nm)/\(q.nm=p.nm\/q.nm∈D.iD p.nm)
 rank:∃rk,∀p∈D.made,Rk p.iE rk
 before:∀i p,D.made[i]?=some p->∀x∈D.iD p.nm,x∈(D.made.take i).map (·.nm)
 trans:∀x∈D.names,∀y∈D.iD x,∀z∈D.iD y,z∈D.iD x
 stN:D.stores.Nodup
 kA:∀s∈D.stores,∀x∈D.held s,x∈D.names/\∀y∈D.iD x,y∈D.held s
 vA:∀s∈D.stores,(D.held s).Nodup
 Ks:∀p∈D.made,∀n∈p.jx,n.1≠p.nm
 need:∀p∈D.made,∀y,y∈D.iD p.nm↔∃z∈ir p,y=z\/y∈D.iD z
theorem mX{p:Pt}(h:p.iE.map (·.nm)=(List.range p.iE.length).map λj=>(p.nm,j)){m:Nm}(hm:m∈p.iE.map (·.nm)):m.1=p.nm:=by
 rw[h] at hm
 obtain⟨j,_,rfl⟩:=aaA.mp hm
 rfl
theorem ME{ps:List Pt}(nd:(ps.map (·.nm)).Nodup){p q:Pt}(hp:p∈ps)(hq:q∈ps)(e:p.nm=q.nm):p=q:=by
 induction ps with
 | nil=>cases hp
 | cons x r ih=>
  rw[aat,aaW] at nd
  rcases XH.mp hp with h1|h1
  ·rcases XH.mp hq with h2|h2
   ·rw[h1,h2]
   ·exact absurd (by rw[<-h1,e];exact YO h2) nd.1
  ·rcases XH.mp hq with h2|h2
   ·exact absurd (by rw[<-h2,<-e];exact YO h1) nd.1
   ·exact ih nd.2 h1 h2
theorem Ga{ps:List Pt}(nd:(ps.map (·.nm)).Nodup)(h:∀p∈ps,p.iE.map (·.nm)=(List.range p.iE.length).map λj=>(p.nm,j)):((ps.flatMap (·.iE)).map (·.nm)).Nodup:=by
 induction ps with
 | nil=>exact aa9
 | cons x r ih=>
  rw[aat,aaW] at nd
  rw[aaE,aau,aaZ]
  refine⟨?_,ih nd.2 λp hp=>h p (aaa _ hp),λa ha b hb e=>?_⟩
  ·rw[h x aap]
   exact abI.mpr (List.nodup_range.imp λz e=>z (aaQ Prod.snd e))
  ·have e1:=mX (h x aap) ha
   obtain⟨l,hl,rfl⟩:=aaA.mp hb
   obtain⟨q,hq,hlq⟩:=aa0.mp hl
   have e2:=mX (h q (aaa _ hq)) (YO hlq)
   exact nd.1 (by rw[<-e1,e,e2];exact YO hq)
theorem jI{ps:List Pt}{f:Str}{l:Ln}:l∈gR ps f↔∃p∈ps,p.file=some f/\l∈p.iE:=by
 unfold gR
 rw[aa0]
 constructor
 ·rintro⟨p,hp,hl⟩
  obtain⟨h1,h2⟩:=aal.mp hp
  exact⟨p,h1,aah h2,hl⟩
 ·rintro⟨p,h1,h2,hl⟩
  exact⟨p,aal.mpr ⟨h1,WV h2⟩,hl⟩
theorem vB(ps:List Pt)(f:Str):(gR ps f).Sublist (ps.flatMap (·.iE)):=by
 unfold gR
 have h:=aaV (p:=λp:Pt=>decide (p.file=some f)) (l:=ps)
 generalize ps.filter _=qs at h
 induction h with
 | slnil=>exact aaD _
 | cons x _ ih=>rw[aaE];exact ih.trans (aa3 _ _)
 | cons_cons x _ ih=>rw[aaE,aaE];exact(aaD _).append ih
namespace Inv
variable{D:Dk}
theorem i3{s:Str}{p:Pt}:p∈D.pj s↔p∈D.made/\p.nm∈D.held s:=by
 unfold Dk.pj
 rw[aal,abc]
theorem za(s:Str):(D.pj s).Sublist D.made:=aaV
theorem nodup(I:Inv D)(s f:Str):((gR (D.pj s) f).map (·.nm)).Nodup:=
 ((vB _ f).map _).nodup (Ga (((za s).map _).nodup I.nd) λp hp=>I.DU p (za s |>.subset hp))
theorem Gb(I:Inv D)(s f:Str):((mF (D.pj s) f).map (·.nm)).Nodup:=((lM _ f).map _).nodup (I.nodup s f)
theorem closed(I:Inv D){s:Str}(hs:s∈D.stores)(f:Str):qy (gR (D.pj s) f):=by
 have key:∀l∈gR (D.pj s) f,∀m,l.up=some m\/l.lo=some m->m∈(gR (D.pj s) f).map (·.nm):=λl hl m hm=>by
  obtain⟨p,hp,hf,hl⟩:=jI.mp hl
  obtain⟨hp,hh⟩:=i3.mp hp
  obtain⟨q,hq,e,XG,hn⟩:=I.refs p hp l hl m hm
  obtain⟨l',DW,rfl⟩:=aaA.mp XG
  refine YO (jI.mpr ⟨q,i3.mpr ⟨hq,?_⟩,by rw[e];exact hf,DW⟩)
  rcases hn with hn|hn
  ·rw[hn];exact hh
  ·exact(I.kA s hs _ hh).2 _ hn
 exact λl hl=>⟨λm hm=>key l hl m (.inl hm),λm hm=>key l hl m (.inr hm)⟩
theorem Ph(I:Inv D)(s f:Str):Kl (gR (D.pj s) f):=by
 obtain⟨rk,h⟩:=I.rank
 refine⟨rk,λl hl=>?_⟩
 obtain⟨p,hp,_,hl⟩:=jI.mp hl
 exact h p (i3.mp hp).1 l hl
theorem rQ(I:Inv D)(s f:Str):(D.row s f).Perm (mF (D.pj s) f):=by
 obtain⟨rk,r⟩:=I.Ph s f
 exact FZ (rk:=rk) (λm n z=>r.ah z) (I.Gb s f)
theorem qA(I:Inv D){s f:Str}{l:Ln}(h:l∈D.row s f):∃p∈D.pj s,p.file=some f/\l∈p.iE:=
 jI.mp ((lM _ f).subset ((I.rQ s f).subset h))
theorem vC(I:Inv D)(s f:Str):(D.row s f).length<=(D.made.flatMap (·.iE)).length:=by
 rw[(I.rQ s f).length_eq]
 refine aai (lM _ f).length_le (aai (vB _ f).length_le ?_)
 have h:=za (D:=D) s
 generalize D.pj s=qs at h
 generalize D.made=ms at h
 clear I
 induction h with
 | slnil=>exact WR _
 | cons x _ ih=>rw[aaE,XF];omega
 | cons_cons x _ ih=>rw[aaE,aaE,XF,XF];omega
open Classical in
theorem chain{lt:Nm->Nm->Prop}{row:List Ln}(hq:ki lt row=[]):row.Pairwise λa b=>lt a.nm b.nm:=by
 rw[abh]
 intro i j hi hj Dt
 by_cases c:ltAt lt row i j
 ·obtain⟨a,b,ha,hb,z⟩:=c
  rw[TH hi] at ha
  rw[TH hj] at hb
  cases ha;cases hb
  exact z
 ·exfalso
  have:(i,j)∈ki lt row:=by
   unfold ki
   refine aa0.mpr ⟨i,abf.mpr hi,aaA.mpr ⟨j,aal.mpr ⟨List.mem_range'.mpr ⟨j-(i+1),by omega,by omega⟩,WV c⟩,rfl⟩⟩
  rw[hq] at this
  cases this
theorem keep(I:Inv D){s:Str}{p:Pt}(hs:s∈D.stores)(fresh:p.nm∉D.names)(DU:p.iE.map (·.nm)=(List.range p.iE.length).map λj=>(p.nm,j))
  (refs:∀l∈p.iE,∀m,l.up=some m\/l.lo=some m->m∈p.iE.map (·.nm)\/∃q∈D.pj s,q.file=p.file/\m∈q.iE.map (·.nm))
  (jx:∀m∈p.jx,∃q∈D.pj s,m∈q.iE.map (·.nm)) (other:∀o,p.other=some o->o∈D.held s)
  (rank:∃rk,(∀q∈D.made,Rk q.iE rk)/\Rk p.iE rk):Inv (D.keep s p):=by
 have qo:∀x∈D.names,x≠p.nm:=λx hx e=>fresh (e▸hx)
 have Qx:∀q∈D.made,q.nm∈D.names:=λq hq=>YO hq
 have Nv:∀x,x≠p.nm->(D.keep s p).iD x=D.iD x:=λx hx=>aac hx
 have TL:(D.keep s p).iD p.nm=qz D.iD p:=aan rfl
 have Vw:∀x∈ir p,x∈D.held s:=λx hx=>by
  unfold ir at hx
  rcases ZU.mp hx with hx|hx
  ·obtain⟨m,hm,rfl⟩:=aaA.mp hx
   obtain⟨hm,hn⟩:=aal.mp hm
   have hn:m.1≠p.nm:=aah hn
   have fin:(∃q∈D.pj s,m∈q.iE.map (·.nm))->m.1∈D.held s:=λ⟨q,hq,XG⟩=>by
    obtain⟨h1,h2⟩:=i3.mp hq
    rw[mX (I.DU q h1) XG];exact h2
   rcases ZU.mp hm with hm|hm
   ·exact fin (jx m hm)
   ·obtain⟨l,hl,hm⟩:=aa0.mp hm
    have Qy:l.up=some m\/l.lo=some m:=by
     rcases ZU.mp hm with hm|hm
     ·exact .inl (by simpa using hm)
     ·exact .inr (by simpa using hm)
    rcases refs l hl m Qy with z|⟨q,hq,_,z⟩
    ·exact absurd (mX DU z) hn
    ·exact fin ⟨q,hq,z⟩
  ·exact other x (by simpa using hx)
 have nh:∀x∈qz D.iD p,x∈D.held s:=λx hx=>by
  obtain⟨y,hy,hx⟩:=aa0.mp hx
  rcases XH.mp hx with rfl|hx
  ·exact Vw _ hy
  ·exact(I.kA s hs y (Vw y hy)).2 x hx
 have nn:∀x∈qz D.iD p,x∈D.names:=λx hx=>(I.kA s hs x (nh x hx)).1
 have Oa:∀x∈D.names,∀y∈D.iD x,y∈D.names:=λx hx y hy=>by
  obtain⟨q,hq,rfl⟩:=aaA.mp hx
  obtain⟨i,hi⟩:=aaG.mp hq
  have:=I.before i q hi y hy
  exact(acd i D.made).map _ |>.subset this
 refine⟨?_,λq hq=>?_,λq hq l hl m hm=>?_,?_,λi q hq x hx=>?_,λx hx y hy z hz=>?_,I.stN,λt ht x hx=>?_,λt ht=>?_,λq hq n hn=>?_,λq hq y=>?_⟩
 ·show((D.made++[p]).map (·.nm)).Nodup
  rw[aau,aaZ]
  exact⟨I.nd,by simp,λa ha b hb e=>fresh (by simp at hb;rw[<-hb,<-e];exact ha)⟩
 ·rcases ZU.mp hq with hq|hq
  ·exact I.DU q hq
  ·rw[WO.mp hq];exact DU
 ·rcases ZU.mp hq with hq|hq
  ·obtain⟨q',h1,h2,h3,h4⟩:=I.refs q hq l hl m hm
   refine⟨q',aad _ h1,h2,h3,h4.imp id λz=>?_⟩
   rw[Nv _ (qo _ (Qx q hq))];exact z
  ·rw[WO.mp hq] at hl ⊢
   rcases refs l hl m hm with z|⟨q',h1,h2,h3⟩
   ·exact⟨p,by show p∈D.made++[p];simp,rfl,z,.inl rfl⟩
   ·obtain⟨h4,h5⟩:=i3.mp h1
    refine⟨q',aad _ h4,h2,h3,.inr ?_⟩
    rw[TL]
    have e:=mX (I.DU q' h4) h3
    refine aa0.mpr ⟨q'.nm,?_,aap⟩
    unfold ir
    refine aad _ (aaA.mpr ⟨m,aal.mpr ⟨?_,WV ?_⟩,e⟩)
    ·unfold named
     refine aay _ (aa0.mpr ⟨l,hl,?_⟩)
     rcases hm with hm|hm
     ·exact aad _ (by rw[hm];simp)
     ·exact aay _ (by rw[hm];simp)
    ·rw[e];exact qo _ (Qx q' h4)
 ·obtain⟨rk,h1,h2⟩:=rank
  refine⟨rk,λq hq=>?_⟩
  rcases ZU.mp hq with hq|hq
  ·exact h1 q hq
  ·rw[WO.mp hq];exact h2
 ·show x∈((D.made++[p]).take i).map (·.nm)
  have hq:(D.made++[p])[i]?=some q:=hq
  by_cases hi:i<D.made.length
  ·rw[abP hi] at hq
   rw[List.take_append_of_le_length (by omega)]
   rw[Nv _ (qo _ (Qx q (WW hq)))] at hx
   exact I.before i q hq x hx
  ·have hl:=(List.getElem?_eq_some_iff.mp hq).1
   rw[XF] at hl
   have hi:i=D.made.length:=by have:[p].length=1:=rfl;omega
   subst hi
   rw[aba (WR _),Nat.sub_self] at hq
   cases hq
   rw[List.take_append_of_le_length (WR _),aaq]
   rw[TL] at hx
   exact nn x hx
 ·have hx:x∈(D.made++[p]).map (·.nm):=hx
  rw[aau] at hx
  rcases ZU.mp hx with hx|hx
  ·rw[Nv _ (qo x hx)] at hy ⊢
   rw[Nv _ (qo y (Oa x hx y hy))] at hz
   exact I.trans x hx y hy z hz
  ·have hx:x=p.nm:=by simpa using hx
   rw[hx,TL] at hy ⊢
   rw[Nv _ (qo y (nn y hy))] at hz
   obtain⟨w,hw,hy⟩:=aa0.mp hy
   refine aa0.mpr ⟨w,hw,aaa _ ?_⟩
   rcases XH.mp hy with rfl|hy
   ·exact hz
   ·exact I.trans w (I.kA s hs w (Vw w hw)).1 y hy z hz
 ·have old:∀u∈D.stores,∀x∈D.held u,x∈(D.keep s p).names/\∀y∈(D.keep s p).iD x,y∈D.held u:=λu hu x hx=>by
   obtain⟨h1,h2⟩:=I.kA u hu x hx
   refine⟨?_,λy hy=>?_⟩
   ·show x∈(D.made++[p]).map (·.nm)
    rw[aau];exact aad _ h1
   ·rw[Nv _ (qo x h1)] at hy
    exact h2 y hy
  have hx:x∈(if t=s then D.held s++[p.nm] else D.held t):=hx
  show x∈(D.keep s p).names/\∀y∈(D.keep s p).iD x,y∈(if t=s then D.held s++[p.nm] else D.held t)
  by_cases e:t=s
  ·rw[aan e] at hx ⊢
   rcases ZU.mp hx with hx|hx
   ·obtain⟨h1,h2⟩:=old s hs x hx
    exact⟨h1,λy hy=>aad _ (h2 y hy)⟩
   ·have hx:x=p.nm:=by simpa using hx
    rw[hx]
    refine⟨?_,λy hy=>?_⟩
    ·show p.nm∈(D.made++[p]).map (·.nm)
     simp
    ·rw[TL] at hy
     exact aad _ (nh y hy)
  ·rw[aac e] at hx ⊢
   exact old t ht x hx
 ·show(if t=s then D.held s++[p.nm] else D.held t).Nodup
  by_cases e:t=s
  ·rw[aan e,aaZ]
   exact⟨I.vA s hs,by simp,λa ha b hb z=>fresh (by simp at hb;rw[<-hb,<-z];exact(I.kA s hs a ha).1)⟩
  ·rw[aac e];exact I.vA t ht
 ·rcases ZU.mp hq with hq|hq
  ·exact I.Ks q hq n hn
  ·rw[WO.mp hq] at hn ⊢
   obtain⟨q',h1,h2⟩:=jx n hn
   rw[mX (I.DU q' (i3.mp h1).1) h2]
   exact qo _ (Qx q' (i3.mp h1).1)
 ·rcases ZU.mp hq with hq|hq
  ·rw[Nv _ (qo _ (Qx q hq)),I.need q hq y]
   have e:∀z∈ir q,(D.keep s p).iD z=D.iD z:=λz hz=>Nv z (qo z (Oa q.nm (Qx q hq) z ((I.need q hq z).mpr ⟨z,hz,.inl rfl⟩)))
   exact⟨λ⟨z,h1,h2⟩=>⟨z,h1,by rw[e z h1];exact h2⟩,λ⟨z,h1,h2⟩=>⟨z,h1,by rw[e z h1] at h2;exact h2⟩⟩
  ·rw[WO.mp hq,TL]
   have e:∀z∈ir p,(D.keep s p).iD z=D.iD z:=λz hz=>Nv z (qo z (I.kA s hs z (Vw z hz)).1)
   unfold qz
   rw[aa0]
   exact⟨λ⟨z,h1,h2⟩=>⟨z,h1,by rw[e z h1];exact XH.mp h2⟩,λ⟨z,h1,h2⟩=>⟨z,h1,by rw[e z h1] at h2;exact XH.mpr h2⟩⟩
theorem record(I:Inv D){s f x:Str}(hs:s∈D.stores)(fresh:x∉D.names)(hq:D.oz s f=[])(texts:List Str):Inv (D.keep s (mG x f (D.row s f) texts)):=by
 obtain⟨rk,Qz⟩:=I.rank
 have rise:=tG ((D.row s f).map (·.tx)) texts
 rw[Ob] at rise
 have TM:∀t m,mW (D.row s f) (K01.kept ((D.row s f).map (·.tx)) texts) t=some m->∃q∈D.pj s,q.file=some f/\m∈q.iE.map (·.nm):=λt m h=>by
  obtain⟨q,_,_,l,hl,rfl⟩:=CJ h
  obtain⟨p,h1,h2,h3⟩:=I.qA (WW hl)
  exact⟨p,h1,h2,YO h3⟩
 have own:∀q∈D.made,∀m∈q.iE.map (·.nm),m.1≠x:=λq hq m hm e=>fresh (by rw[<-e,mX (I.DU q hq) hm];exact YO hq)
 have ch:(D.row s f).Pairwise λa b=>rk a.nm<rk b.nm:=by
  have tr:Rk (gR (D.pj s) f) rk:=λl hl=>by
   obtain⟨p,hp,_,hl⟩:=jI.mp hl
   exact Qz p (i3.mp hp).1 l hl
  exact(chain hq).imp λz=>tr.ah z
 refine I.keep hs fresh ?_ (λl hl m hm=>?_) (λm hm=>?_) (λo ho=>by cases ho) ⟨F_ rk (mW (D.row s f) (K01.kept ((D.row s f).map (·.tx)) texts)) x texts.length,λq hq=>?_,?_⟩
 ·show(kK x texts _).map (·.nm)=(List.range (kK x texts _).length).map λj=>(x,j)
  unfold kK
  rw[vz,<-List.range_eq_range']
 ·rcases y_ texts 0 0 none l hl m hm with(z|⟨t,z⟩)|z
  ·cases z
  ·exact .inr (TM t m z)
  ·exact .inl z
 ·obtain⟨l,hl,rfl⟩:=aaA.mp hm
  obtain⟨p,h1,_,h3⟩:=I.qA (aal.mp hl).1
  exact⟨p,h1,YO h3⟩
 ·refine Kr (Qz q hq) λl hl=>⟨own q hq _ (YO hl),λm hm=>?_⟩
  obtain⟨q',h1,_,h3,_⟩:=I.refs q hq l hl m hm
  exact own q' h1 m h3
 ·refine Kq (λa b c d h1 h2 h3=>MC rise ch h1 h2 h3) (λt m h=>?_) texts
  obtain⟨q,h1,_,h3⟩:=TM t m h
  exact own q (i3.mp h1).1 m h3
theorem cut(I:Inv D){s f x:Str}(hs:s∈D.stores)(fresh:x∉D.names){ms:List Nm}(hm:∀m∈ms,m∈(D.row s f).map (·.nm)):Inv (D.keep s ⟨x,some f,[],ms,none⟩):=by
 refine I.keep hs fresh rfl (λl hl=>by cases hl) (λm h=>?_) (λo ho=>by cases ho) ?_
 ·obtain⟨l,hl,rfl⟩:=aaA.mp (hm m h)
  obtain⟨p,h1,_,h3⟩:=I.qA hl
  exact⟨p,h1,YO h3⟩
 ·obtain⟨rk,h⟩:=I.rank
  exact⟨rk,h,λl hl=>by cases hl⟩
theorem back(I:Inv D){s x o:Str}(hs:s∈D.stores)(fresh:x∉D.names)(ho:o∈D.held s):Inv (D.keep s ⟨x,none,[],[],some o⟩):=by
 refine I.keep hs fresh rfl (λl hl=>by cases hl) (λm h=>by cases h) (λo' h=>by cases h;exact ho) ?_
 obtain⟨rk,h⟩:=I.rank
 exact⟨rk,h,λl hl=>by cases hl⟩
theorem BO(I:Inv D){x:Str}(hx:x∈D.names):x∉D.iD x:=λh=>by
 obtain⟨q,hq,rfl⟩:=aaA.mp hx
 obtain⟨i,hi⟩:=aaG.mp hq
 have h1:=I.before i q hi _ h
 rw[List.map_take] at h1
 obtain⟨j,hj⟩:=aaG.mp h1
 have Jk:j<i:=by have:=(List.getElem?_eq_some_iff.mp hj).1;rw[aaC] at this;omega
 rw[abN,aan Jk] at hj
 have e3:(D.made.map (·.nm))[i]?=some q.nm:=by rw[aam,hi];rfl
 have:=(abJ (List.getElem?_eq_some_iff.mp hj).1 I.nd).mp (hj.trans e3.symm)
 omega
theorem zb(I:Inv D){x y:Str}(hx:x∈D.names)(hy:y∈D.iD x):y∈D.names:=by
 obtain⟨q,hq,rfl⟩:=aaA.mp hx
 obtain⟨i,hi⟩:=aaG.mp hq
 exact(acd i D.made).map _ |>.subset (I.before i q hi y hy)
theorem take(I:Inv D){s x:Str}(hs:s∈D.stores)(hx:x∈D.names):Inv (D.take s x):=by
 have cm:∀y∈D.nO s x,(y=x\/y∈D.iD x)/\y∉D.held s:=λy hy=>by
  obtain⟨h1,h2⟩:=aal.mp hy
  refine⟨?_,aah h2⟩
  rcases ZU.mp h1 with h|h
  ·exact .inr (aah (aal.mp h).2)
  ·exact .inl (by simpa using h)
 have inn:∀y,y=x\/y∈D.iD x->y∈D.held s++D.nO s x:=λy hy=>by
  by_cases h:y∈D.held s
  ·exact aad _ h
  ·refine aay _ (aal.mpr ⟨?_,WV h⟩)
   rcases hy with rfl|hy
   ·simp
   ·exact aad _ (aal.mpr ⟨I.zb hx hy,WV hy⟩)
 refine⟨I.nd,I.DU,I.refs,I.rank,I.before,I.trans,I.stN,λt ht z hz=>?_,λt ht=>?_,I.Ks,I.need⟩
 ·have hz:z∈(if t=s then D.held s++D.nO s x else D.held t):=hz
  show z∈D.names/\∀y∈D.iD z,y∈(if t=s then D.held s++D.nO s x else D.held t)
  by_cases e:t=s
  ·rw[aan e] at hz ⊢
   rcases ZU.mp hz with hz|hz
   ·obtain⟨h1,h2⟩:=I.kA s hs z hz
    exact⟨h1,λy hy=>aad _ (h2 y hy)⟩
   ·obtain⟨h1,_⟩:=cm z hz
    rcases h1 with rfl|h1
    ·exact⟨hx,λy hy=>inn y (.inr hy)⟩
    ·exact⟨I.zb hx h1,λy hy=>inn y (.inr (I.trans x hx z h1 y hy))⟩
  ·rw[aac e] at hz ⊢
   exact I.kA t ht z hz
 ·show(if t=s then D.held s++D.nO s x else D.held t).Nodup
  by_cases e:t=s
  ·rw[aan e,aaZ]
   refine⟨I.vA s hs,?_,λa ha b hb z=>(cm b hb).2 (z▸ha)⟩
   refine ab5 aaV ?_
   rw[aaZ]
   refine⟨ab5 aaV I.nd,by simp,λa ha b hb z=>?_⟩
   rw[WO.mp hb] at z
   subst z
   exact I.BO hx (aah (aal.mp ha).2)
  ·rw[aac e];exact I.vA t ht
theorem drop(I:Inv D){s x:Str}(hs:s∈D.stores)(hx:∀z∈D.held s,x∉D.iD z):Inv (D.drop s x):=by
 refine⟨I.nd,I.DU,I.refs,I.rank,I.before,I.trans,I.stN,λt ht z hz=>?_,λt ht=>?_,I.Ks,I.need⟩
 ·have hz:z∈(if t=s then(D.held s).filter (λy=>y≠x) else D.held t):=hz
  show z∈D.names/\∀y∈D.iD z,y∈(if t=s then(D.held s).filter (λy=>y≠x) else D.held t)
  by_cases e:t=s
  ·rw[aan e] at hz ⊢
   have hz:=(aal.mp hz).1
   obtain⟨h1,h2⟩:=I.kA s hs z hz
   exact⟨h1,λy hy=>aal.mpr ⟨h2 y hy,WV λe=>hx z hz (e▸hy)⟩⟩
  ·rw[aac e] at hz ⊢
   exact I.kA t ht z hz
 ·show(if t=s then(D.held s).filter (λy=>y≠x) else D.held t).Nodup
  by_cases e:t=s
  ·rw[aan e];exact ab5 aaV (I.vA s hs)
  ·rw[aac e];exact I.vA t ht
theorem begin(I:Inv D){s:Str}(hs:s∉D.stores):Inv (D.begin s):=by
 refine⟨I.nd,I.DU,I.refs,I.rank,I.before,I.trans,?_,λt ht z hz=>?_,λt ht=>?_,I.Ks,I.need⟩
 ·show(D.stores++[s]).Nodup
  rw[aaZ]
  exact⟨I.stN,by simp,λa ha b hb e=>hs (by rw[<-WO.mp hb,<-e];exact ha)⟩
 ·have hz:z∈(if t=s then[] else D.held t):=hz
  show z∈D.names/\∀y∈D.iD z,y∈(if t=s then[] else D.held t)
  by_cases e:t=s
  ·rw[aan e] at hz;cases hz
  ·rw[aac e] at hz ⊢
   rcases ZU.mp ht with ht|ht
   ·exact I.kA t ht z hz
   ·exact absurd (WO.mp ht) e
 ·show(if t=s then[] else D.held t).Nodup
  by_cases e:t=s
  ·rw[aan e];exact aa9
  ·rw[aac e]
   rcases ZU.mp ht with ht|ht
   ·exact I.vA t ht
   ·exact absurd (WO.mp ht) e
theorem BP(I:Inv D){s x:Str}{xs:List Str}(hs:s∈D.stores)(h:D.has s=xs++[x]):∀z∈D.held s,x∉D.iD z:=by
 intro z hz hx
 obtain⟨Vx,_⟩:=I.kA s hs z hz
 obtain⟨q,hq,rfl⟩:=aaA.mp Vx
 obtain⟨i,hi⟩:=aaG.mp hq
 have h1:=I.before i q hi x hx
 have e:D.names=(D.made.take i).map (·.nm)++q.nm::(D.made.drop (i+1)).map (·.nm):=by
  have Br:=(List.getElem?_eq_some_iff.mp hi).1
  unfold Dk.names
  conv=>lhs;rw[<-abz i D.made,aaP Br,(List.getElem?_eq_some_iff.mp hi).2]
  rw[aau,aat]
 have hn:=I.nd
 rw[e,aaZ,aaW] at hn
 unfold Dk.has at h
 rw[e,aaH,ZT (p:=λy=>decide (y∈D.held s)) (WV hz)] at h
 have hl:x∈q.nm::((D.made.drop (i+1)).map (·.nm)).filter λy=>decide (y∈D.held s):=by
  have h2:=aaQ List.getLast? h
  rw[List.getLast?_append,List.getLast?_append] at h2
  have h3:(q.nm::((D.made.drop (i+1)).map (·.nm)).filter λy=>decide (y∈D.held s)).getLast?=some x:=by
   cases e4:(q.nm::((D.made.drop (i+1)).map (·.nm)).filter λy=>decide (y∈D.held s)).getLast? with
   | none=>simp at e4
   | some y=>rw[e4] at h2;simpa using h2
  exact List.mem_of_getLast? h3
 have DW:x∈q.nm::(D.made.drop (i+1)).map (·.nm):=by
  rcases XH.mp hl with z|z
  ·rw[z];exact aap
  ·exact aaa _ (aal.mp z).1
 exact hn.2.2 x h1 x DW rfl
end Inv
end PM
namespace PK
open PySem L2
set_option genInjectivity false
set_option genSizeOf false
set_option genSizeOfSpec false
noncomputable def top(i:Nat):Stmt:=PySem.Challenge.pw_patchkin_k13_whole_no_line_lost.main.body.getD i (.Pass ⟨0,0,0,0⟩)
noncomputable section
noncomputable abbrev nL(l:List Str):List Str:=l
abbrev pq:=top 2
abbrev qB:=top 3
abbrev qC:=top 4
abbrev Ge:=top 5
abbrev mY:=inClass (top 17) 0
abbrev l_:=inClass (top 18) 0
abbrev kT:=top 19
abbrev jV:=top 20
abbrev n6:=top 21
abbrev rR:=top 22
abbrev kU:=top 23
abbrev n9:=top 24
abbrev me:=top 25
abbrev zP:=top 26
abbrev oN:=top 27
abbrev qD:=top 28
abbrev vD:=top 29
abbrev mf:=inClass (top 30) 0
abbrev mi:=inClass (top 30) 1
abbrev kY:=inClass (top 30) 2
abbrev qE:=top 34
abbrev n_:=top 35
abbrev pw:=top 36
abbrev rS:=top 37
abbrev j0:=top 38
abbrev mZ:=inClass (top 39) 0
abbrev qF:=inClass (top 39) 1
abbrev tY:=inClass (top 39) 2
abbrev rV:=inClass (top 39) 3
abbrev qG:=inClass (top 39) 4
abbrev my:=inClass (top 39) 5
abbrev qH:=inClass (top 39) 6
abbrev rW:=inClass (top 39) 7
abbrev oO:=inClass (top 39) 8
abbrev rX:=inClass (top 39) 9
abbrev nP:=inClass (top 39) 10
abbrev vE:=inClass (top 39) 12
abbrev qI:=inClass (top 39) 13
abbrev m_:=inClass (top 39) 14
abbrev kB:=inClass (top 39) 16
abbrev nc:=inClass (top 39) 17
abbrev lr:=inClass (top 39) 18
abbrev lN:=inClass (top 39) 19
abbrev lO:=inClass (top 39) 20
abbrev mj:=inClass (top 39) 21
abbrev rY:=inClass (top 39) 22
abbrev oa:=top 41
abbrev rZ:=top 42
abbrev r9:=top 43
abbrev oP:=top 44
abbrev r_:=top 45
abbrev oQ:=top 46
abbrev mH:=top 47
abbrev qJ:=top 48
abbrev ni:=top 49
abbrev lP:=top 50
abbrev oR:=top 51
abbrev uE:=top 52
abbrev kL:=top 53
abbrev Kt:=top 54
abbrev yO:=nL ["self","name","text","upper_name","lower_name"]
theorem w_:gH yO ["self","name","text","upper_name","lower_name"] (gr mY):=mR
abbrev xa:=nL ["self","name","file","puts","cuts","other"]
theorem vF:gH xa ["self","name","file","puts","cuts","other"] (gr l_):=mR
abbrev pT:=nL ["patch","names","line","name"]
theorem kC:gH pT ["patch"] (gr kT):=mR
abbrev nG:=nL ["patch","leant","name"]
theorem kO:gH nG ["patch"] (gr jV):=mR
noncomputable abbrev zQ:=nL ["patches","taken_back","live","patch"]
theorem lj:gH zQ ["patches"] (gr n6):=mR
abbrev ED:=nL ["patches","file","lines","patch"]
theorem qK:gH ED ["patches","file"] (gr rR):=mR
noncomputable abbrev pU:=nL ["patches","file","live","gone","patch","name","line"]
theorem jj:gH pU ["patches","file"] (gr kU):=mR
abbrev xb:=nL ["lines","straight","line"]
theorem kD:gH xb ["lines"] (gr me):=mR
abbrev Ku:=nL ["names","ahead","found","name"]
theorem xc:gH Ku ["names","ahead"] (gr zP):=mR
abbrev xV:=nL ["lines","straight","ahead","line","climb","name","missing","other"]
theorem jJ:gH xV ["lines"] (gr oN):=mR
abbrev CN:=nL ["waiting","name"]
theorem tZ:gH CN ["waiting"] (gr qD):=mR
abbrev EE:=nL ["lines","ahead","by_name","waiting","line","row","name","other"]
theorem lx:gH EE ["lines","ahead"] (gr vD):=mR
abbrev xf:=nL ["self","patches","file"]
theorem vG:gH xf ["self","patches","file"] (gr mf):=mR
abbrev xg:=nL ["self","first","second"]
theorem vH:gH xg ["self","first","second"] (gr mi):=mR
abbrev tS:=nL ["self","pairs","first","second"]
theorem jK:gH tS ["self"] (gr kY):=mR
abbrev CO:=nL ["name","sign"]
theorem t_:gH CO ["name"] (gr qE):=mR
abbrev zR:=nL ["places","size","least","place"]
theorem ll:gH zR ["places","size"] (gr n_):=mR
abbrev A5:=nL ["kept_names","size","behind","place"]
theorem oe:gH A5 ["kept_names","size"] (gr pw):=mR
abbrev EF:=nL ["patch","texts","kept_names","behind","lines","upper_name","place","text"]
theorem jL:gH EF ["patch","texts","kept_names"] (gr rS):=mR
abbrev ml:=nL ["patch","file","row","texts","kept_names","left","first","second","cuts","line"]
theorem iL:gH ml ["patch","file","row","texts"] (gr j0):=mR
abbrev yP:=nL ["self"]
theorem xh:gH yP ["self"] (gr mZ):=mR
abbrev CP:=nL ["self","store"]
theorem A6:gH CP ["self","store"] (gr qF):=mR
abbrev zS:=nL ["self","store","name"]
theorem xW:gH zS ["self","store"] (gr qG):=mR
abbrev ue:=nL ["self","store","patch","file","texts","sight","line"]
theorem og:gH ue ["self","store","patch","file","texts"] (gr my):=mR
abbrev zT:=nL ["self","store","patch","file","places","row","place"]
theorem se:gH zT ["self","store","patch","file","places"] (gr qH):=mR
abbrev EG:=nL ["self","store","patch","other"]
theorem CQ:gH EG ["self","store","patch","other"] (gr rW):=mR
abbrev xX:=nL ["self","store","source","patch","wanted","came","name"]
theorem lQ:gH xX ["self","store","source","patch"] (gr oO):=mR
abbrev EH:=nL ["self","store","patch","name"]
theorem vI:gH EH ["self","store","patch"] (gr rX):=mR
abbrev vJ:=nL ["self","patch","name"]
theorem uf:gH vJ ["self","patch"] (gr nP):=mR
abbrev zU:=nL ["self","store","file","line"]
theorem xY:gH zU ["self","store","file"] (gr qI):=mR
abbrev yQ:=nL ["self","store","file"]
theorem xi:gH yQ ["self","store","file"] (gr m_):=mR
abbrev oS:=nL ["self","store","name"]
theorem oh:gH oS ["self","store"] (gr kB):=mR
abbrev yR:=nL ["self","store","file"]
theorem xj:gH yR ["self","store","file"] (gr nc):=mR
abbrev uF:=nL ["self","store"]
theorem tT:gH uF ["self","store"] (gr lr):=mR
abbrev vK:=nL ["self","patch"]
theorem uG:gH vK ["self","patch"] (gr lN):=mR
abbrev vL:=nL ["self","store","patch"]
theorem uH:gH vL ["self","store","patch"] (gr lO):=mR
abbrev xk:=nL ["self","patch","files","name"]
theorem oT:gH xk ["self","patch","files"] (gr mj):=mR
abbrev EI:=nL ["self","store","patch","needs","name"]
theorem qL:gH EI ["self","store","patch"] (gr rY):=mR
abbrev zV:=nL ["script","k"]
theorem yS:gH zV ["script","k"] (gr oa):=mR
abbrev EJ:=nL ["cell","k","bound","stir"]
theorem qM:gH EJ ["cell","k","bound"] (gr rZ):=mR
abbrev EK:=nL ["cell","k","signs","size","base","far","found","j"]
theorem jm:gH EK ["cell","k"] (gr r9):=mR
abbrev xZ:=nL ["cell","signs","size","j"]
theorem lR:gH xZ ["cell"] (gr oP):=mR
abbrev EL:=nL ["texts","cell","at","line","more","way","out","turned"]
theorem j7:gH EL ["texts","cell"] (gr r_):=mR
abbrev x5:=nL ["desk","stores","files","cell","name","backs","store","file","way","more","row","source","names","line"]
theorem jn:gH x5 ["desk","stores","files","cell","name","backs"] (gr oQ):=mR
abbrev sh:=nL ["script","first","most","backs","desk","stores","files","store","k","cell"]
theorem jc:gH sh ["script","first","most","backs"] (gr mH):=mR
abbrev CS:=nL ["found"]
theorem A7:gH CS ["found"] (gr qJ):=mR
abbrev yT:=nL ["row","line"]
theorem pV:gH yT ["row"] (gr ni):=mR
abbrev vM:=nL ["found","pair"]
theorem oj:gH vM ["found"] (gr lP):=mR
abbrev x8:=nL ["desk","store","files","file"]
theorem vN:gH x8 ["desk","store","files"] (gr oR):=mR
abbrev Gf:=nL ["rows","having","due","side","line","known"]
theorem mI:gH Gf ["rows","having"] (gr uE):=mR
abbrev si:=nL ["before","behind","i","j","one","other","pair"]
theorem iN:gH si ["before","behind"] (gr kL):=mR
abbrev Sq:=nL ["script","built","desk","store","other","having","before","name","behind","at","rows","row","side"]
theorem mq:gH Sq ["script"] (gr Kt):=mR
structure Txt(mg:Qqx):Prop where
 jC:mg "len"=none
 kE:mg "range"=none
 Sr:mg "max"=none
 jM:mg "isinstance"=none
 Ss:mg "int"=none
 Pj:mg "bool"=none
 zW:mg "list"=none
 Hf:mg "tuple"=none
 NS:mg "str"=none
 zX:mg "reversed"=none
 EM:mg "sorted"=none
 ZZ:mg "set"=none
 EN:mg "enumerate"=none
 MF:mg "ValueError"=none
structure Ad where
 A8:Addr
 A9:FuncData
 CT:Addr
 CU:FuncData
 CV:Addr
 CW:FuncData
 Kv:Addr
 Kw:FuncData
 nj:Addr
 rg:FuncData
 mr:Addr
 pW:FuncData
 pX:Addr
 pY:FuncData
 nH:Addr
 nI:FuncData
 sj:Addr
 sr:FuncData
 x9:Addr
 x_:FuncData
 pZ:Addr
 p5:FuncData
 uI:Addr
 uJ:FuncData
 p6:Addr
 p7:FuncData
 EO:Addr
 ER:FuncData
 ya:Addr
 yb:FuncData
 vO:Addr
 vP:FuncData
 ES:Addr
 ET:FuncData
 mv:Addr
 p8:FuncData
 p9:Addr
 p_:FuncData
 nJ:Addr
 nK:FuncData
 vQ:Addr
 vR:FuncData
 su:Addr
 sv:FuncData
 ug:Addr
 uh:FuncData
 yc:Addr
 yd:FuncData
 qd:Addr
 qf:FuncData
 nq:Addr
 rh:FuncData
 vS:Addr
 vT:FuncData
 A_:Addr
 Ba:FuncData
 zY:Addr
 zZ:FuncData
 z8:Addr
 z_:FuncData
 ui:Addr
 uj:FuncData
 Aa:Addr
 Ab:FuncData
 ye:Addr
 yf:FuncData
 yg:Addr
 yh:FuncData
 yi:Addr
 yj:FuncData
 vU:Addr
 vV:FuncData
 CY:Addr
 CZ:FuncData
 Ae:Addr
 Af:FuncData
 rj:Addr
 rl:FuncData
 oU:Addr
 oV:FuncData
 rm:Addr
 rn:FuncData
 om:Addr
 oq:FuncData
 oW:Addr
 oX:FuncData
 oY:Addr
 oZ:FuncData
 qg:Addr
 qh:FuncData
 yk:Addr
 yl:FuncData
 sA:Addr
 sC:FuncData
 ym:Addr
 yn:FuncData
 yo:Addr
 yp:FuncData
 yq:Addr
 yr:FuncData
 yt:Addr
 yu:FuncData
 yv:Addr
 yw:FuncData
 yx:Addr
 yy:FuncData
 vW:Addr
 vX:FuncData
 rq:Addr
 rA:FuncData
 o3:Addr
 o4:FuncData
 yz:Addr
 yA:FuncData
 Ag:Addr
 Ai:FuncData
 mJ:Addr
 mL:FuncData
 gW:Addr
 gY:Addr
 ie:Addr
 gB:Addr
 lS:Addr
 jF:Addr
 js:Addr
 iW:Addr
 j1:Addr
 ou:Addr
 ly:Addr
 uK:Addr
 tH:Addr
 nQ:Tok
 lT:Tok
 z:Unit
structure Ok(K:Qqy)(mg:Qqx)(A:Ad):Prop where
 sD:DF K mg "counts_with" pq A.A8 A.A9 ["text","new","below"]
 uL:DF K mg "most_pairs" qB A.CT A.CU ["old","new"]
 uM:DF K mg "place_from" qC A.CV A.CW ["texts","text","start"]
 kept:DF K mg "kept" Ge A.Kv A.Kw ["old","new"]
 um:DM K A.gW "__init__" "Line.__init__" mY A.nj A.rg ["self","name","text","upper_name","lower_name"]
 lU:DM K A.gY "__init__" "Patch.__init__" l_ A.mr A.pW ["self","name","file","puts","cuts","other"]
 sE:DF K mg "lines_named_by" kT A.pX A.pY ["patch"]
 o5:DF K mg "leans_straight_on" jV A.nH A.nI ["patch"]
 vY:DF K mg "live_patches" n6 A.sj A.sr ["patches"]
 xl:DF K mg "lines_put" rR A.x9 A.x_ ["patches","file"]
 sF:DF K mg "standing_lines" kU A.pZ A.p5 ["patches","file"]
 IA:DF K mg "files_with_lines" n9 A.uI A.uJ ["patches"]
 sG:DF K mg "straight_ahead" me A.p6 A.p7 ["lines"]
 joined:DF K mg "joined" zP A.EO A.ER ["names","ahead"]
 BQ:DF K mg "all_ahead" oN A.ya A.yb ["lines"]
 Aj:DF K mg "first_free" qD A.vO A.vP ["waiting"]
 Kx:DF K mg "row_of" vD A.ES A.ET ["lines","ahead"]
 sH:DM K A.ie "__init__" "Sight.__init__" mf A.mv A.p8 ["self","patches","file"]
 sI:DM K A.ie "is_ahead" "Sight.is_ahead" mi A.p9 A.p_ ["self","first","second"]
 jN:DM K A.ie "quarrelling" "Sight.quarrelling" kY A.nJ A.nK ["self"]
 uN:DF K mg "check_name" qE A.vQ A.vR ["name"]
 vZ:DF K mg "check_places" n_ A.su A.sv ["places","size"]
 yB:DF K mg "kept_behind" pw A.ug A.uh ["kept_names","size"]
 BR:DF K mg "new_lines" rS A.yc A.yd ["patch","texts","kept_names"]
 sJ:DF K mg "changing_patch" j0 A.qd A.qf ["patch","file","row","texts"]
 uo:DM K A.gB "__init__" "Desk.__init__" mZ A.nq A.rh ["self"]
 Ak:DM K A.gB "begin" "Desk.begin" qF A.vS A.vT ["self","store"]
 NT:DM K A.gB "stores" "Desk.stores" tY A.A_ A.Ba ["self"]
 MG:DM K A.gB "patches" "Desk.patches" rV A.zY A.zZ ["self"]
 k9:DM K A.gB "has" "Desk.has" qG A.z8 A.z_ ["self","store"]
 yC:DM K A.gB "record" "Desk.record" my A.ui A.uj ["self","store","patch","file","texts"]
 EU:DM K A.gB "cut" "Desk.cut" qH A.Aa A.Ab ["self","store","patch","file","places"]
 BS:DM K A.gB "back" "Desk.back" rW A.ye A.yf ["self","store","patch","other"]
 xm:DM K A.gB "take" "Desk.take" oO A.yg A.yh ["self","store","source","patch"]
 BU:DM K A.gB "drop" "Desk.drop" rX A.yi A.yj ["self","store","patch"]
 Al:DM K A.gB "leans" "Desk.leans" nP A.vU A.vV ["self","patch"]
 Pk:DM K A.gB "files" "Desk.files" vE A.CY A.CZ ["self","store"]
 Am:DM K A.gB "row" "Desk.row" qI A.Ae A.Af ["self","store","file"]
 pz:DM K A.gB "quarrels" "Desk.quarrels" m_ A.rj A.rl ["self","store","file"]
 rB:DM K A.gB "patches_of" "Desk.patches_of" kB A.oU A.oV ["self","store"]
 k_:DM K A.gB "sight_of" "Desk.sight_of" nc A.rm A.rn ["self","store","file"]
 iX:DM K A.gB "check_store" "Desk.check_store" lr A.om A.oq ["self","store"]
 rC:DM K A.gB "check_made" "Desk.check_made" lN A.oW A.oX ["self","patch"]
 lq:DM K A.gB "check_held" "Desk.check_held" lO A.oY A.oZ ["self","store","patch"]
 lV:DM K A.gB "check_new" "Desk.check_new" mj A.qg A.qh ["self","patch","files"]
 tI:DM K A.gB "keep" "Desk.keep" rY A.yk A.yl ["self","store","patch"]
 jd:DF K mg "_law_cell_at" oa A.sA A.sC ["script","k"]
 BV:DF K mg "_law_draw" rZ A.ym A.yn ["cell","k","bound"]
 tJ:DF K mg "_law_name" r9 A.yo A.yp ["cell","k"]
 xn:DF K mg "_law_text" oP A.yq A.yr ["cell"]
 BW:DF K mg "_law_edit" r_ A.yt A.yu ["texts","cell"]
 BX:DF K mg "_law_deed" oQ A.yv A.yw ["desk","stores","files","cell","name","backs"]
 BY:DF K mg "_law_desk" mH A.yx A.yy ["script","first","most","backs"]
 qN:DF K mg "_law_whole" qJ A.vW A.vX ["found"]
 uq:DF K mg "_law_row_form" ni A.rq A.rA ["row"]
 nu:DF K mg "_law_pairs_form" lP A.o3 A.o4 ["found"]
 tK:DF K mg "_law_seen" oR A.yz A.yA ["desk","store","files"]
 EV:DF K mg "_law_due" uE A.Ag A.Ai ["rows","having"]
 ow:DF K mg "_law_kept_in_order" kL A.mJ A.mL ["before","behind"]
 iR:Fx K A.gW
 Pl:Mk K A.gW A.nj
 Pn:mg "Line"=some (.ref A.gW)
 gT:jY K A.gW "name"
 jO:jY K A.gW "text"
 iH:jY K A.gW "upper_name"
 iI:jY K A.gW "lower_name"
 jo:Fx K A.gY
 C0:Mk K A.gY A.mr
 C1:mg "Patch"=some (.ref A.gY)
 i0:jY K A.gY "name"
 kl:jY K A.gY "file"
 jQ:jY K A.gY "puts"
 jR:jY K A.gY "cuts"
 i4:jY K A.gY "other"
 j8:Fx K A.ie
 MH:Mk K A.ie A.mv
 MJ:mg "Sight"=some (.ref A.ie)
 jy:jY K A.ie "ahead"
 iu:jY K A.ie "lines"
 gP:Fx K A.gB
 Po:Mk K A.gB A.nq
 Pp:mg "Desk"=some (.ref A.gB)
 i5:jY K A.gB "made"
 je:jY K A.gB "needs"
 iB:jY K A.gB "held"
 MK:Exc K mg "PatchError" A.lS
 BZ:Exc K mg "BadName" A.jF
 yD:Exc K mg "NameTaken" A.js
 IB:Exc K mg "NoStore" A.iW
 B0:Exc K mg "NoPatch" A.j1
 Ky:Exc K mg "NoLine" A.ou
 EW:Exc K mg "Unsettled" A.ly
 Kz:Exc K mg "Same" A.uK
 ML:Exc K mg "Leant" A.tH
 C2:mg "NAME_SIGNS"=some (.str (Str.ofString "abcdefghijklmnopqrstuvwxyz0123456789") A.nQ)
 sL:mg "LONGEST_NAME"=some (.int 12 A.lT)
 z:True
end
open PySem L2 PM
noncomputable def nk(n:Nm):List Key:=[Sum.inr n.1,Sum.inl (n.2:Int)]
theorem pA{a b:Nm}(h:nk a=nk b):a=b:=by
 unfold nk at h
 injection h with h1 h2
 injection h2 with h2 _
 exact Prod.ext (ack h1) (by have:=Sum.inl.inj h2;omega)
noncomputable abbrev nT(n:Nm):HO:=.tup ((nk n).map kV)
def lD(H:Hp)(v:V)(n:Nm):Prop:=∃t,v=.ref t/\H t=some (nT n)
def Gg(H:Hp)(v:V):Option Nm->Prop
 | none=>v=.jg
 | some n=>lD H v n
def Vb(v:V):Option Str->Prop
 | none=>v=.jg
 | some x=>v=.str x
def MM(a b c d:V):List (Str×V):=[("name",a),("text",b),("upper_name",c),("lower_name",d)]
theorem i6{a b c d:V}:(MM a b c d).lookup ("name":Str)=some a:=by kernel_rfl
theorem An{a b c d:V}:(MM a b c d).lookup ("text":Str)=some b:=by kernel_rfl
theorem Gh{a b c d:V}:(MM a b c d).lookup ("upper_name":Str)=some c:=by kernel_rfl
theorem Gi{a b c d:V}:(MM a b c d).lookup ("lower_name":Str)=some d:=by kernel_rfl
noncomputable def MN(a b c d e:V):List (Str×V):=[("name",a),("file",b),("puts",c),("cuts",d),("other",e)]
theorem sM{a b c d e:V}:(MN a b c d e).lookup ("name":Str)=some a:=by kernel_rfl
theorem KA{a b c d e:V}:(MN a b c d e).lookup ("file":Str)=some b:=by kernel_rfl
theorem EY{a b c d e:V}:(MN a b c d e).lookup ("puts":Str)=some c:=by kernel_rfl
theorem EZ{a b c d e:V}:(MN a b c d e).lookup ("cuts":Str)=some d:=by kernel_rfl
theorem tL{a b c d e:V}:(MN a b c d e).lookup ("other":Str)=some e:=by kernel_rfl
def nv(A:Ad)(H:Hp)(a:Addr)(l:Ln):Prop:=∃dx vn vu vl,H a=some (.ins A.gW dx (MM vn (.str l.tx) vu vl))/\lD H vn l.nm/\Gg H vu l.up/\Gg H vl l.lo
def qO(A:Ad)(H:Hp)(a:Addr)(ls:List Ln):Prop:=∃as:List Addr,H a=some (.lst (as.map V.ref))/\Paired (nv A H) as ls
def Ao(H:Hp)(a:Addr)(ns:List Nm):Prop:=∃vs,H a=some (.lst vs)/\Paired (lD H) vs ns
def oA(A:Ad)(H:Hp)(a:Addr)(p:Pt):Prop:=∃dx vf pu cu vo,H a=some (.ins A.gY dx (MN (.str p.nm) vf (.ref pu) (.ref cu) vo))/\Vb vf p.file/\qO A H pu p.iE/\Ao H cu p.jx/\Vb vo p.other
def yU(A:Ad)(H:Hp)(a:Addr)(ps:List Pt):Prop:=∃as:List Addr,H a=some (.lst (as.map V.ref))/\Paired (oA A H) as ps
section
variable{A:Ad}{H H':Hp}{a:Addr}
theorem lD.same{v:V}{n:Nm}(x:lD H v n)(s:gs H H'):lD H' v n:=by obtain⟨t,e,h⟩:=x;exact⟨t,e,s _ _ h⟩
theorem Gg.same{v:V}{o:Option Nm}(x:Gg H v o)(s:gs H H'):Gg H' v o:=by
 cases o with
 | none=>exact x
 | some n=>exact lD.same x s
theorem nv.same{l:Ln}(x:nv A H a l)(s:gs H H'):nv A H' a l:=by
 obtain⟨dx,vn,vu,vl,h,h1,h2,h3⟩:=x
 exact⟨dx,vn,vu,vl,s _ _ h,h1.same s,h2.same s,h3.same s⟩
theorem qO.same{ls:List Ln}(x:qO A H a ls)(s:gs H H'):qO A H' a ls:=by
 obtain⟨as,h,p⟩:=x
 exact⟨as,s _ _ h,Paired.jh p λ_ _ z=>z.same s⟩
theorem Ao.same{ns:List Nm}(x:Ao H a ns)(s:gs H H'):Ao H' a ns:=by
 obtain⟨vs,h,p⟩:=x
 exact⟨vs,s _ _ h,Paired.jh p λ_ _ z=>z.same s⟩
theorem oA.same{p:Pt}(x:oA A H a p)(s:gs H H'):oA A H' a p:=by
 obtain⟨dx,vf,pu,cu,vo,h,h1,h2,h3,h4⟩:=x
 exact⟨dx,vf,pu,cu,vo,s _ _ h,h1,h2.same s,h3.same s,h4⟩
theorem yU.same{ps:List Pt}(x:yU A H a ps)(s:gs H H'):yU A H' a ps:=by
 obtain⟨as,h,p⟩:=x
 exact⟨as,s _ _ h,Paired.jh p λ_ _ z=>z.same s⟩
end
theorem ik{Z Y:Type}{F:Z->Y->Prop}{xs:List Z}{ys:List Y}(p:Paired F xs ys):∀{i:Nat} {x:Z},xs[i]?=some x->∃y,ys[i]?=some y/\F x y:=by
 induction p with
 | nil=>intro i x h;simp at h
 | cons f t ih=>
  intro i x h
  cases i with
  | zero=>simp at h;subst h;exact⟨_,rfl,f⟩
  | succ i=>simpa using ih (by simpa using h)
theorem iY{Z Y:Type}{F:Z->Y->Prop}{xs:List Z}{ys:List Y}(p:Paired F xs ys):∀{i:Nat} {y:Y},ys[i]?=some y->∃x,xs[i]?=some x/\F x y:=by
 induction p with
 | nil=>intro i x h;simp at h
 | cons f t ih=>
  intro i x h
  cases i with
  | zero=>simp at h;subst h;exact⟨_,rfl,f⟩
  | succ i=>simpa using ih (by simpa using h)
theorem uO{Z Y:Type}{F:Z->Y->Prop}{xs zs:List Z}{ys ws:List Y}(p:Paired F xs ys)(q:Paired F zs ws):Paired F (xs++zs) (ys++ws):=by
 induction p with
 | nil=>exact q
 | cons f t ih=>exact .cons f ih
theorem iz{Z Y:Type}{F:Z->Y->Prop}{xs:List Z}{ys:List Y}{x:Z}{y:Y}(p:Paired F xs ys)(h:F x y):Paired F (xs++[x]) (ys++[y]):=uO p (.cons h .nil)
theorem Ap{Z Y:Type}{F:Z->Y->Prop}{xs:List Z}{ys:List Y}(p:Paired F xs ys):Paired F xs.reverse ys.reverse:=by
 induction p with
 | nil=>exact .nil
 | cons f t ih=>rw[List.reverse_cons,List.reverse_cons];exact iz ih f
theorem j9{as:List Addr}{i:Nat}{v:V}(h:(as.map V.ref)[i]?=some v):∃b,as[i]?=some b/\v=.ref b:=by
 rw[aam] at h
 obtain⟨b,e,rfl⟩:=Option.map_eq_some_iff.mp h
 exact⟨b,e,rfl⟩
theorem Vb.eq{v:V}{o:Option Str}(h:Vb v o)(f:Str):decide (v=.str f)=decide (o=some f):=by
 cases o with
 | none=>rw[show v=.jg from h,ZW (λz=>by cases z),ZW (λz=>by cases z)]
 | some x=>
  rw[show v=.str x from h]
  by_cases e:x=f
  ·subst e;rw[WV rfl,WV rfl]
  ·rw[ZW (λz=>e (V.str.inj z)),ZW (λz=>e (aaz z))]
theorem NU{Z:Type}{xs:List Z}{x:Z}{i:Nat}(h:xs.length<=i:=by assumption):(xs++[x]).length<=i+1:=by rw[XF];exact Nat.succ_le_succ h
def xo(n:Nat):Prop:=n<=4000
theorem xo.sz{n:Nat}(h:xo n):n<=sizeLine:=aai h (by decide)
section
variable{P:Program}{w:World}{K:Qqy}{mg:Qqx}{base:Heap}{A:Ad}
def Pq(A:Ad):Sp:=λvs H Q _=>∃(a:Addr)(ps:List Pt),vs=[.ref a]/\yU A H a ps/\xo ps.length/\∀p H',gs H H'->H p=none->yU A H' p (live ps)->Q (.ref p) H'
def Tb(kvs:List (Key×V))(t:List Str):Prop:=∀x,(iT kvs (Sum.inr x)).isSome=decide (x∈t)
theorem Tb.put{kvs:List (Key×V)}{t:List Str}(h:Tb kvs t)(y:Str)(v:V):Tb (putK kvs (Sum.inr y) v) (y::t):=λx=>by
 rw[kc]
 by_cases e:x=y
 ·subst e;rw[aan rfl,WV aap];rfl
 ·rw[aac (λz=>e (ack z)),h x]
  by_cases m:x∈t
  ·rw[WV m,WV (aaa _ m)]
  ·rw[ZW m,ZW (λz=>(XH.mp z).elim e m)]
theorem Gj(p:Pt)(r:List Pt)(t:List Str):n4 (p::r) t=if p.nm∈t then n4 r t else p::n4 r (match p.other with|some o=>o::t|none=>t):=rfl
theorem yV(T:Txt mg)(O:Ok K mg A):il P w K mg base mD 1 A.sj A.sr ["patches"] (Pq A):=by
 refine O.vY.f.q_ lj λjt A0 outer s H vs Q E hr h=>?_
 obtain⟨a,ps,rfl,⟨as,ha,pa⟩,jS,q⟩:=h
 have hlen:=aak pa
 refine⟨_,(de (k8 1 lj nU)
   (de (k8 2 lj (iQ d_))
   (de (ix aar rfl (Mr rfl T.zX (a_ (pv 0) d_)) (rF 3 lj) (f_ (iC (jv (lu (by exact iZ hr) (gK (pv 3) rfl) (pv 1))) (de (h_ (nS aaF aaS aaT kj (pv 2) (a_ (pv 3) d_)))
   (f_ (iC (jv (tw (gK (pv 3) rfl))) (f_ (jB (by exact iZ hr) (pv 1) (gK (pv 3) rfl) kG rfl)) g_))) g_)))
   (f_ (gZ (FR rfl (by rfl) T.zW (by rfl) T.zX (a_ (pv 2) d_))))))),?_⟩
 refine O5 ?_;intro _ _ _
 intro t ht
 have s1:gs H (upd H t (.dK [])):=(gs.refl H).new ht
 refine⟨L2.jS,λl hl=>?_⟩
 have s2:gs H (upd (upd H t (.dK [])) l (.lst [])):=s1.new hl
 have QA:t≠l:=λz=>by rw[z] at hl;rw[b_] at hl;cases hl
 refine⟨_,rfl,a,_,rfl,gO.of (s2 a _ ha),Ms (K:=K) (a:=a) (xs:=as.map V.ref) (λi Z H2=>∃(v:Option V)(kvs:List (Key×V))(tb:List Str)(ls:List Addr)(lp:List Pt),Z=[rr a,rr t,rr l,v]/\gs H H2/\H2 t=some (.dK kvs)/\Tb kvs tb/\kvs.length<=i/\H2 l=some (.lst (ls.map V.ref))/\ls.length<=i/\Paired (oA A H) ls lp/\lp++n4 (ps.reverse.drop i) tb=n4 ps.reverse [])
  ⟨none,[],[],[],[],rfl,s2,by rw[e_ QA];exact b_,(λx=>rfl),WR _,b_,WR _,.nil,rfl⟩ (by rintro _ _ _ _ ⟨_,_,_,_,_,_,s3,_⟩;exact gO.of (s3 a _ ha)) ?_ ?_⟩
 ·rintro i v Z H2 hx ⟨v0,kvs,tb,ls,lp,rfl,s3,h1,h2,h3,h4,h5,h6,h7⟩
  rw[<-List.map_reverse] at hx
  obtain⟨b,hb,rfl⟩:=j9 hx
  obtain⟨p,hp,dx,vf,pu,cu,vo,g1,g2,g3,g4,g5⟩:=ik (Ap pa) hb
  have hi:i<ps.reverse.length:=(List.getElem?_eq_some_iff.mp hp).1
  have Br:i<4000:=by rw[abj] at hi;exact aaB hi jS
  have hd:ps.reverse.drop i=p::ps.reverse.drop (i+1):=by rw[aaP hi];congr 1;exact(List.getElem?_eq_some_iff.mp hp).2
  rw[hd] at h7
  refine⟨_,rfl,b,A.gY,dx,_,_,rfl,s3 _ _ g1,O.jo,O.i0,sM,_,rfl,t,_,rfl,ja.k (k:=Sum.inr p.nm) h1,_,rfl,?_⟩
  rw[h2 p.nm]
  rw[Gj] at h7
  by_cases hm:p.nm∈tb
  ·rw[aan hm] at h7
   rw[WV hm]
   exact jD ⟨_,kvs,tb,ls,lp,rfl,s3,h1,h2,by omega,h4,by omega,h6,h7⟩
  ·rw[aac hm] at h7
   rw[ZW hm]
   refine lX ?_
   refine⟨_,rfl,.inl ⟨rfl,_,gO.of h4⟩,_,rfl,l,_,_,rfl,rfl,h4,by rw[Ob];exact abm h5 (Nat.lt_trans Br (by decide)),?_⟩
   have XI:H l=none:=s1.free hl
   have s4:gs H (upd H2 l (.lst (ls.map V.ref++[V.ref b]))):=s3.upd XI
   have Nl:upd H2 l (.lst (ls.map V.ref++[V.ref b])) t=some (.dK kvs):=by rw[e_ QA];exact h1
   have e4:upd H2 l (.lst (ls.map V.ref++[V.ref b])) l=some (.lst ((ls++[b]).map V.ref)):=by rw[b_,aau];rfl
   have pp:Paired (oA A H) (ls++[b]) (lp++[p]):=iz h6 ⟨dx,vf,pu,cu,vo,g1,g2,g3,g4,g5⟩
   have Vy:(ls++[b]).length<=i+1:=NU
   refine⟨_,rfl,b,A.gY,dx,_,_,rfl,s4 _ _ g1,O.jo,O.i4,tL,_,rfl,?_⟩
   cases ho:p.other with
   | none=>
    rw[ho] at g5 h7
    rw[show vo=V.jg from g5]
    exact⟨_,kvs,tb,_,_,rfl,s4,Nl,h2,by omega,e4,Vy,pp,by rw[aaO];exact h7⟩
   | some x=>
    rw[ho] at g5 h7
    rw[show vo=V.str x from g5] at g1 ⊢
    refine⟨_,rfl,_,rfl,b,A.gY,dx,_,_,rfl,s4 _ _ g1,O.jo,O.i4,tL,t,_,rfl,nN.k (k:=Sum.inr x) Nl (abm h3 (Nat.lt_trans Br (by decide))),?_⟩
    have hlk:=jr kvs (Sum.inr x:Key) (V.bl true)
    have htH:H t=none:=ht
    exact⟨_,_,x::tb,_,_,rfl,s4.upd htH,b_,h2.put x _,by omega,by rw[e_ QA.symm];exact e4,Vy,pp,by rw[aaO];exact h7⟩
 ·rintro Z H2 ⟨v0,kvs,tb,ls,lp,rfl,s3,h1,h2,h3,h4,h5,h6,h7⟩
  rw[Ob] at h3 h5 h7
  rw[hlen,<-abj,aci] at h7
  have h7:lp=n4 ps.reverse []:=by rw[show n4 [] tb=[] from rfl,aaM] at h7;exact h7
  refine⟨_,rfl,l,_,rfl,gO.of h4,λp hp=>?_⟩
  have s4:=s3.new (o:=.lst (ls.map V.ref).reverse) hp
  refine q p _ s4 (s3.free hp) ⟨ls.reverse,by rw[b_,List.map_reverse],?_⟩
  unfold live
  rw[<-h7]
  exact Paired.jh (Ap h6) λ_ _ z=>z.same s4
theorem sN{Z Y:Type}{f:Z->List Y}{ps qs:List Z}(h:ps.Sublist qs):(ps.flatMap f).Sublist (qs.flatMap f):=by
 induction h with
 | slnil=>exact aaD _
 | cons x _ ih=>rw[aaE];exact ih.trans (aa3 _ _)
 | cons_cons x _ ih=>rw[aaE,aaE];exact(aaD _).append ih
structure Small(ps:List Pt):Prop where
 many:xo ps.length
 iE:xo (ps.flatMap (·.iE)).length
 jx:xo (ps.flatMap (·.jx)).length
theorem Small.sub{ps qs:List Pt}(h:ps.Sublist qs)(s:Small qs):Small ps:=⟨aai h.length_le s.many,aai (sN h).length_le s.iE,aai (sN h).length_le s.jx⟩
theorem qP(ps:List Pt)(f:Str):(gR ps f).length<=(ps.flatMap (·.iE)).length:=(sN aaV).length_le
theorem Bb(ps:List Pt)(p:Pt)(f:Str):gR (ps++[p]) f=gR ps f++if p.file=some f then p.iE else[]:=by
 unfold gR
 rw[aaH,abK]
 by_cases h:p.file=some f
 ·rw[aan h,ZT (by simpa using h),aa2,aaE,abC,aaM]
 ·rw[aac h,aab (by simpa using h),aa2,abC]
theorem take_snoc{Z:Type}{xs:List Z}{i:Nat}{x:Z}(h:xs[i]?=some x):xs.take (i+1)=xs.take i++[x]:=by rw[List.take_add_one,h];rfl
def Rb(kvs:List (List Key×V))(ns:List Nm):Prop:=∀n,(iT kvs (nk n)).isSome=decide (n∈ns)
theorem Rb.put{kvs:List (List Key×V)}{ns:List Nm}(h:Rb kvs ns)(y:Nm)(v:V):Rb (putK kvs (nk y) v) (ns++[y]):=λx=>by
 rw[kc]
 by_cases e:x=y
 ·subst e;rw[aan rfl,WV (by simp)];rfl
 ·rw[aac (λz=>e (pA z)),h x]
  by_cases m:x∈ns
  ·rw[WV m,WV (aad _ m)]
  ·rw[ZW m,ZW (λz=>(ZU.mp z).elim m λz=>e (WO.mp z))]
def Su(A:Ad):Sp:=λvs H Q _=>∃(a:Addr)(ps:List Pt)(f:Str),vs=[.ref a,.str f]/\yU A H a ps/\Small ps/\∀p H',gs H H'->H p=none->qO A H' p (gR ps f)->Q (.ref p) H'
theorem v_(T:Txt mg)(O:Ok K mg A):il P w K mg base mD 1 A.x9 A.x_ ["patches","file"] (Su A):=by
 refine O.xl.f.q_ qK λjt A0 outer s H vs Q E hr h=>?_
 obtain⟨a,ps,f,rfl,⟨as,ha,pa⟩,sm,q⟩:=h
 have hlen:=aak pa
 refine⟨_,(de (k8 2 qK (iQ d_))
   (de (ix aar rfl (iq (pv 0)) (rF 3 qK) (f_ (iC (ij nF (gK (pv 3) rfl) (pv 1) (iP _)) (f_ (h_ (nS aaF PySem.F.slot_list_extend PySem.F.type_list_extend BD (pv 2) (a_ (gK (pv 3) rfl) d_)))) g_)))
   (f_ (gZ (pv 2))))),?_⟩
 refine Ep ?_;intro _ _
 refine⟨L2.jS,λl hl=>?_⟩
 have s1:gs H (upd H l (.lst [])):=(gs.refl H).new hl
 dsimp only [nE];refine LN ?_;intro _
 let Jv:=λ(i:Nat) (Z:St) (H2:Hp)=>∃(v:Option V)(ls:List Addr),Z=[rr a,rs f,rr l,v]/\gs H H2/\H2 l=some (.lst (ls.map V.ref))/\Paired (nv A H) ls (gR (ps.take i) f)
 refine⟨_,rfl,a,rfl,⟨_,gO.of (s1 a _ ha)⟩,iV (K:=K) (a:=a) (xs:=as.map V.ref) Jv
  ⟨none,[],rfl,s1,b_,.nil⟩ (by rintro _ _ _ _ ⟨_,_,_,s3,_⟩;exact gO.of (s3 a _ ha)) ?_ ?_⟩
 ·rintro i v Z H2 hx ⟨v0,ls,rfl,s3,h4,h6⟩
  obtain⟨b,hb,rfl⟩:=j9 hx
  obtain⟨p,hp,dx,vf,pu,cu,vo,g1,g2,⟨as2,g3,TQ⟩,g4,g5⟩:=ik pa hb
  have e:gR (ps.take (i+1)) f=gR (ps.take i) f++if p.file=some f then p.iE else[]:=by rw[take_snoc hp,Bb]
  refine⟨_,rfl,b,A.gY,dx,_,_,rfl,s3 _ _ g1,O.jo,O.kl,KA,_,rfl,?_⟩
  have hf:OI vf (V.str f)=true:=by
   cases hq:p.file with
   | none=>rw[hq] at g2;rw[show vf=V.jg from g2];rfl
   | some x=>rw[hq] at g2;rw[show vf=V.str x from g2];rfl
  refine⟨hf,_,rfl,?_⟩
  rw[g2.eq f]
  by_cases hm:p.file=some f
  ·rw[aan hm] at e
   rw[WV hm]
   refine lX ?_
   refine⟨_,rfl,.inl ⟨rfl,_,gO.of h4⟩,_,rfl,b,A.gY,dx,_,_,rfl,s3 _ _ g1,O.jo,O.jQ,EY,l,pu,_,_,rfl,rfl,h4,s3 _ _ g3,?_,?_⟩
   ·rw[Ob,Ob,aak h6,aak TQ,<-XF,<-e]
    exact aai (qP _ f) (Small.sub (acd _ _) sm).iE.sz
   ·refine⟨_,ls++as2,rfl,s3.upd hl,by rw[b_,aau],?_⟩
    rw[e]
    exact uO h6 TQ
  ·rw[aac hm,aaM] at e
   rw[ZW hm]
   exact jD ⟨_,ls,rfl,s3,h4,by rw[e];exact h6⟩
 ·rintro Z H2 ⟨v0,ls,rfl,s3,h4,h6⟩
  rw[Ob,hlen,aaq] at h6
  exact⟨_,rfl,q l _ s3 hl ⟨ls,h4,Paired.jh h6 λ_ _ z=>z.same s3⟩⟩
theorem IC(ps:List Pt)(p:Pt):gone (ps++[p])=gone ps++p.jx:=by
 unfold gone
 rw[abK,aaE,abC,aaM]
def MO(A:Ad):Sp:=λvs H Q _=>∃(a:Addr)(ps:List Pt)(f:Str),vs=[.ref a,.str f]/\yU A H a ps/\Small ps/\∀p H',gs H H'->H p=none->qO A H' p (mF ps f)->Q (.ref p) H'
theorem wa(T:Txt mg)(O:Ok K mg A):il P w K mg base mD 2 A.pZ A.p5 ["patches","file"] (MO A):=by
 have AE:=@yV P w K mg base A T O
 have sW:=@v_ P w K mg base A T O
 refine O.sF.f.q_ jj λjt A0 outer s H vs Q E hr h=>?_
 obtain⟨a,ps,f,rfl,pa,sm,q⟩:=h
 refine⟨_,(de (k8 2 jj (oM O.vY AE hr (a_ (pv 0) d_)))
   (de (mS (i:=3) jj.nd rfl (Or.inr rfl) mB)
   (de (ix aar rfl (iq (pv 2)) (rF 4 jj) (f_ (ix aar rfl (iq (gK (pv 4) rfl)) (rF 5 jj) (f_ (jB (by exact iZ hr) (pv 3) (pv 5) kG rfl)))))
   (f_ (gZ (zy pU (gr kU).names [6] rfl (iq (oM O.xl sW hr (a_ (pv 2) (a_ (pv 1) d_)))) rfl (by decide+kernel) (λ_ _ _ _=>(iK (i:=6) jj.nd rfl (Or.inl rfl))) (λ_ _ _ _=>⟨_,qr (jv (lu (by exact iZ hr) (gK (pv 6) rfl) (pv 3))),by(try simp only [lH]);rfl⟩) (λ_ _ _ _=>CD (pv 6)))))))),?_⟩
 refine O5 ?_;intro _ _ _
 refine⟨_,rfl,a,ps,rfl,pa,sm.many,λl H1 s1 LS Lu=>?_⟩
 have XJ:Small (live ps):=sm.sub (EA ps)
 obtain⟨as,ha,pl⟩:=id Lu
 have hlen:=aak pl
 intro g hg
 have s2:gs H1 (upd H1 g (.dT [])):=(gs.refl H1).new hg
 dsimp only [nE];refine LN ?_;intro _
 let Jv:=λ(i:Nat) (Z:St) (H2:Hp)=>∃(v4 v5:Option V)(kvs:List (List Key×V)),Z=[rr a,rs f,rr l,rr g,v4,v5,none]/\gs H1 H2/\H2 g=some (.dT kvs)/\Rb kvs (gone ((live ps).take i))/\kvs.length<=(gone ((live ps).take i)).length
 refine⟨_,rfl,l,rfl,⟨_,gO.of (s2 l _ ha)⟩,iV (K:=K) (a:=l) (xs:=as.map V.ref) Jv
  ⟨none,none,[],rfl,s2,b_,(λx=>rfl),WR _⟩ (by rintro _ _ _ _ ⟨_,_,_,_,s3,_⟩;exact gO.of (s3 l _ ha)) ?_ ?_⟩
 ·rintro i v Z H2 hx ⟨v4,v5,kvs,rfl,s3,h1,h2,h3⟩
  obtain⟨b,hb,rfl⟩:=j9 hx
  obtain⟨p,hp,dx,vf,pu,cu,vo,g1,g2,g3,⟨cs,g4,Rp⟩,g5⟩:=ik pl hb
  have e:gone ((live ps).take (i+1))=gone ((live ps).take i)++p.jx:=by rw[take_snoc hp,IC]
  have hsz:(gone ((live ps).take i)++p.jx).length<=4000:=by rw[<-e];exact(XJ.sub (acd _ _)).jx
  rw[XF] at hsz
  have Oc:=aak Rp
  let Jv:=λ(j:Nat) (Z:St) (H3:Hp)=>∃(v5:Option V)(kvs:List (List Key×V)),Z=[rr a,rs f,rr l,rr g,rr b,v5,none]/\gs H1 H3/\H3 g=some (.dT kvs)/\Rb kvs (gone ((live ps).take i)++p.jx.take j)/\kvs.length<=(gone ((live ps).take i)).length+j
  refine⟨_,rfl,b,A.gY,dx,_,_,rfl,s3 _ _ g1,O.jo,O.jR,EZ,cu,rfl,⟨_,gO.of (s3 _ _ g4)⟩,iV (K:=K) (a:=cu) (xs:=cs) Jv
   ⟨v5,kvs,rfl,s3,h1,by rw[aby,aaM];exact h2,by omega⟩ (by rintro _ _ _ _ ⟨_,_,_,s4,_⟩;exact gO.of (s4 cu _ g4)) ?_ ?_⟩
  ·rintro j v Z H3 hx ⟨v5,kvs,rfl,s4,h1,h2,h3⟩
   obtain⟨n,hn,t,rfl,ht⟩:=ik Rp hx
   have hj:j<cs.length:=(List.getElem?_eq_some_iff.mp hx).1
   refine⟨_,rfl,_,rfl,g,_,rfl,nN.t (k:=nk n) h1 (s4 _ _ ht) (abm (m:=4000) (by omega) (by decide)),?_⟩
   have hlk:=jr kvs (nk n) (V.bl true)
   refine⟨_,_,rfl,s4.upd hg,b_,?_,by omega⟩
   rw[take_snoc hn,<-aaO]
   exact h2.put n _
  ·rintro Z H3 ⟨v5,kvs,rfl,s4,h1,h2,h3⟩
   rw[Oc,aaq] at h2
   rw[Oc] at h3
   exact⟨_,v5,kvs,rfl,s4,h1,by rw[e];exact h2,by rw[e,XF];exact h3⟩
 ·rintro Z H2 ⟨v4,v5,kvs,rfl,s3,h1,h2,h3⟩
  rw[Ob,hlen,aaq] at h2
  refine⟨_,rfl,_,rfl,l,live ps,f,rfl,Lu.same s3,XJ,λp H3 s4 rH ⟨XM,h3a,h3p⟩=>?_⟩
  have hlp:XM.length=(gR (live ps) f).length:=aak h3p
  have hbound:XM.length<=4000:=by rw[hlp];exact aai (qP _ _) XJ.iE
  refine⟨p,rfl,⟨_,gO.of h3a⟩,kR (K:=K) (a:=p) (xs:=XM.map V.ref) (by rw[Ob];exact aai hbound (by decide)) (λi ys Z H4=>∃(v6:Option V)(ls:List Addr),Z=[rr a,rs f,rr l,rr g,v4,v5,v6]/\H4=H3/\ys=ls.map V.ref/\ls.length<=i/\Paired (nv A H3) ls (((gR (live ps) f).take i).filter λl=>l.nm∉gone (live ps)))
   ⟨none,[],rfl,rfl,rfl,WR _,.nil⟩ (by rintro _ _ _ _ _ ⟨_,ls,_,e,e2,e3,_⟩;subst e e2;exact⟨gO.of h3a,by rw[Ob];exact e3⟩) ?_ ?_⟩
  ·rintro i v ys Z H4 hx ⟨v6,ls,rfl,rfl,rfl,e3,h6⟩
   obtain⟨b,hb,rfl⟩:=j9 hx
   obtain⟨ln,wz,dx,vn,vu,vl,k1,⟨t,rfl,k2⟩,k3,k4⟩:=ik h3p hb
   refine⟨_,rfl,b,A.gW,dx,_,_,rfl,k1,O.iR,O.gT,i6,_,rfl,g,_,rfl,ja.t (k:=nk ln.nm) (s4 _ _ h1) k2,_,rfl,?_⟩
   rw[h2 ln.nm,take_snoc wz,aaH]
   by_cases hm:ln.nm∈gone (live ps)
   ·rw[WV hm]
    refine jD ⟨_,ls,rfl,rfl,rfl,by omega,?_⟩
    rw[aab (by simpa using hm),aa2,aaM]
    exact h6
   ·rw[ZW hm]
    refine lX ⟨_,rfl,_,ls++[b],rfl,rfl,by rw[aau];rfl,NU,?_⟩
    rw[ZT (by simpa using hm),aa2]
    exact iz h6 ⟨dx,.ref t,vu,vl,k1,⟨t,rfl,k2⟩,k3,k4⟩
  ·rintro ys Z H4 ⟨v6,ls,rfl,rfl,rfl,e3,h6⟩ p2 A2
   rw[Ob,hlp,aaq] at h6
   have s5:=((s1.trans s3).trans s4).new (o:=.lst (ls.map V.ref)) A2
   refine q p2 _ s5 (((s1.trans s3).trans s4).free A2) ⟨ls,b_,?_⟩
   exact Paired.jh h6 λ_ _ z=>z.same ((gs.refl H4).new A2)
theorem qi{Z:Type}[DecidableEq Z](kvs:List (Z×V))(k:Z)(v:V):(putK kvs k v).map (·.1)=if k∈kvs.map (·.1) then kvs.map (·.1) else kvs.map (·.1)++[k]:=by
 unfold putK
 by_cases h:k∈kvs.map (·.1)
 ·have h':(kvs.any λkv=>decide (kv.1=k))=true:=by
   obtain⟨p,hp,e⟩:=aaA.mp h
   exact List.any_eq_true.mpr ⟨p,hp,WV e⟩
  rw[aan h',aan h,List.map_map]
  refine abY λp _=>?_
  show(if p.1=k then(p.1,v) else p).1=p.1
  split<;>rfl
 ·have h':¬(kvs.any λkv=>decide (kv.1=k))=true:=λz=>by
   obtain⟨p,hp,e⟩:=List.any_eq_true.mp z
   exact h (aaA.mpr ⟨p,hp,aah e⟩)
  rw[aac h',aac h,aau]
  rfl
theorem tM{Z:Type}[DecidableEq Z]{kvs:List (Z×V)}{k:Z}:(iT kvs k).isSome=true↔k∈kvs.map (·.1):=by
 induction kvs with
 | nil=>exact⟨(λz=>by cases z),(λz=>by cases z)⟩
 | cons p r ih=>
  by_cases e:p.1=k
  ·rw[jl e,aat,e];exact⟨λ_=>aap,λ_=>rfl⟩
  ·rw[jf e,ih,aat]
   exact⟨λm=>aaa _ m,λz=>(XH.mp z).elim (λz=>absurd z.symm e) id⟩
theorem E1{Z:Type}[DecidableEq Z]{kvs:List (Z×V)}{k:Z}(h:k∉kvs.map (·.1)):iT kvs k=none:=by
 cases e:iT kvs k with
 | none=>rfl
 | some v=>exact absurd (tM.mp (by rw[e];rfl)) h
theorem sO{n:Nm}{l:List Nm}:nk n∈l.map nk↔n∈l:=by
 constructor
 ·intro h
  obtain⟨m,hm,e⟩:=aaA.mp h
  rw[<-pA e];exact hm
 ·exact λh=>YO h
def Bc(H:Hp)(a:Addr)(l:List Nm):Prop:=∃dk,H a=some (.dT dk)/\dk.map (·.1)=l.map nk
def oB(l:List Nm)(m:Nm):List Nm:=if m∈l then l else l++[m]
theorem sP{l:List Nm}{m x:Nm}:x∈oB l m↔x∈l\/x=m:=by
 unfold oB
 split
 ·rename_i h
  exact⟨.inl,λz=>z.elim id λz=>z▸h⟩
 ·simp
theorem zc{l:List Nm}{m:Nm}(h:l.Nodup):(oB l m).Nodup:=by
 unfold oB
 split
 ·exact h
 ·rename_i hm
  rw[aaZ]
  exact⟨h,by simp,λa ha b hb z=>hm (by rw[WO.mp hb] at z;exact z▸ha)⟩
theorem E2{l:List Nm}{m:Nm}:(oB l m).length<=l.length+1:=by
 unfold oB
 split
 ·omega
 ·rw[XF];exact WR _
theorem wb{dk:List (List Key×V)}{l:List Nm}(h:dk.map (·.1)=l.map nk)(m:Nm)(v:V):(putK dk (nk m) v).map (·.1)=(oB l m).map nk:=by
 rw[qi,h]
 unfold oB
 by_cases e:m∈l
 ·rw[aan (sO.mpr e),aan e]
 ·rw[aac (λz=>e (sO.mp z)),aac e,aau];rfl
noncomputable def zk(ns:List Nm)(ds:List Addr):List (List Key×V):=List.zipWith (λn d=>(nk n,V.ref d)) ns ds
theorem Hg:∀{ns:List Nm} {ds:List Addr} (n:Nm) (d:Addr),ns.length=ds.length->zk (ns++[n]) (ds++[d])=zk ns ds++[(nk n,V.ref d)]
 | [],[],_,_,_=>rfl
 | [],_::_,_,_,h=>by simp at h
 | _::_,[],_,_,h=>by simp at h
 | x::r,y::t,n,d,h=>by
  show(nk x,V.ref y)::zk (r++[n]) (t++[d])=_
  rw[Hg n d (by simpa using h)]
  rfl
theorem C3:∀{ns:List Nm} {ds:List Addr},ns.length=ds.length->(zk ns ds).map (·.1)=ns.map nk
 | [],[],_=>rfl
 | [],_::_,h=>by simp at h
 | _::_,[],h=>by simp at h
 | x::r,y::t,h=>by
  show nk x::(zk r t).map (·.1)=nk x::r.map nk
  rw[C3 (by simpa using h)]
noncomputable def tU:List Nm->List Addr->Nm->Addr
 | x::r,d::t,n=>if x=n then d else tU r t n
 | _,_,_=>0
theorem KC:∀{ns:List Nm} {ds:List Addr} {n:Nm},ns.length=ds.length->n∈ns->iT (zk ns ds) (nk n)=some (.ref (tU ns ds n))
 | [],_,_,_,hn=>by cases hn
 | _::_,[],_,h,_=>by simp at h
 | x::r,y::t,n,h,hn=>by
  show iT ((nk x,V.ref y)::zk r t) (nk n)=some (.ref (if x=n then y else tU r t n))
  by_cases e:x=n
  ·subst e
   rw[jl rfl,aan rfl]
  ·have hr:n∈r:=(XH.mp hn).elim (λz=>absurd z.symm e) id
   rw[jf (λz=>e (pA z)),KC (by simpa using h) hr,aac e]
theorem C4:∀{ns:List Nm} {ds:List Addr} {n:Nm},ns.length=ds.length->n∈ns->tU ns ds n∈ds
 | [],_,_,_,hn=>by cases hn
 | _::_,[],_,h,_=>by simp at h
 | x::r,y::t,n,h,hn=>by
  show(if x=n then y else tU r t n)∈y::t
  by_cases e:x=n
  ·rw[aan e];exact aap
  ·rw[aac e]
   exact aaa _ (C4 (by simpa using h) ((XH.mp hn).elim (λz=>absurd z.symm e) id))
theorem KD:∀{ns:List Nm} {ds:List Addr} {n m:Nm},ns.length=ds.length->ds.Nodup->n∈ns->m∈ns->tU ns ds n=tU ns ds m->n=m
 | [],_,_,_,_,_,hn,_,_=>by cases hn
 | _::_,[],_,_,h,_,_,_,_=>by simp at h
 | x::r,y::t,n,m,h,nd,hn,hm,e=>by
  have hl:r.length=t.length:=by simpa using h
  rw[aaW] at nd
  have e:(if x=n then y else tU r t n)=(if x=m then y else tU r t m):=e
  by_cases e1:x=n
  ·by_cases e2:x=m
   ·exact e1.symm.trans e2
   ·rw[aan e1,aac e2] at e
    exact absurd (e▸C4 hl ((XH.mp hm).elim (λz=>absurd z.symm e2) id)) nd.1
  ·have Rh:=(XH.mp hn).elim (λz=>absurd z.symm e1) id
   by_cases e2:x=m
   ·rw[aac e1,aan e2] at e
    exact absurd (e▸C4 hl Rh) nd.1
   ·rw[aac e1,aac e2] at e
    exact KD hl nd.2 Rh ((XH.mp hm).elim (λz=>absurd z.symm e2) id) e
structure WY(H:Hp)(p:Addr)(ns:List Nm)(ad:Nm->Addr)(sf:Nm->List Nm):Prop where
 at_:∃kvs,H p=some (.dT kvs)/\(∀n∈ns,iT kvs (nk n)=some (.ref (ad n)))/\kvs.map (·.1)=ns.map nk
 inj:∀n∈ns,∀m∈ns,ad n=ad m->n=m
 ks:∀n∈ns,Bc H (ad n) (sf n)
theorem MP{ls:List Ln}{l:Ln}{m n:Nm}:Sa (ls++[l]) m n↔Sa ls m n\/(l.nm=n/\l.up=some m)\/(l.nm=m/\l.lo=some n):=by
 unfold Sa
 constructor
 ·rintro⟨x,hx,q⟩
  rcases ZU.mp hx with h|h
  ·exact .inl ⟨x,h,q⟩
  ·rw[WO.mp h] at q;exact .inr q
 ·rintro(⟨x,hx,q⟩|q)
  ·exact⟨x,aad _ hx,q⟩
  ·exact⟨l,by simp,q⟩
def Sv(A:Ad):Sp:=λvs H Q _=>∃(a:Addr)(ls:List Ln),vs=[.ref a]/\qO A H a ls/\xo ls.length/\(ls.map (·.nm)).Nodup/\qy ls/\
 ∀p H' ad sf,gs H H'->H p=none->(∀n∈ls.map (·.nm),H (ad n)=none)->WY H' p (ls.map (·.nm)) ad sf->(∀n,(sf n).Nodup/\∀m,m∈sf n↔Sa ls m n)->Q (.ref p) H'
theorem wc(T:Txt mg)(O:Ok K mg A):il P w K mg base mD 1 A.p6 A.p7 ["lines"] (Sv A):=by
 refine O.sG.f.q_ kD λjt A0 outer s H vs Q E hr h=>?_
 obtain⟨a,ls,rfl,⟨as,ha,pa⟩,jS,nd,cl,q⟩:=h
 have hlen:=aak pa
 refine⟨_,(de (k8 1 kD mB)
   (de (ix aar rfl (iq (pv 0)) (rF 2 kD) (f_ (jB (by exact iZ hr) (pv 1) (gK (pv 2) rfl) mB rfl)))
   (de (ix aar rfl (iq (pv 0)) (rF 2 kD) (de (uB (iC (jv (tw (gK (pv 2) rfl))) (f_ (jB (by exact iZ hr) (zJ hr (pv 1) (gK (pv 2) rfl)) (gK (pv 2) rfl) kG rfl)) g_))
   (f_ (iC (jv (tw (gK (pv 2) rfl))) (f_ (jB (by exact iZ hr) (zJ hr (pv 1) (gK (pv 2) rfl)) (gK (pv 2) rfl) kG rfl)) g_))))
   (f_ (gZ (pv 1)))))),?_⟩
 refine O5 ?_;intro _ _ _
 intro p hp
 have s1:gs H (upd H p (.dT [])):=(gs.refl H).new hp
 dsimp only [nE];refine LN ?_;intro _
 let Jv:=λ(i:Nat) (Z:St) (H2:Hp)=>∃(v:Option V)(ds:List Addr),Z=[rr a,rr p,v]/\gs H H2/\H2 p=some (.dT (zk ((ls.take i).map (·.nm)) ds))/\ds.length=((ls.take i).map (·.nm)).length/\ds.Nodup/\(∀d∈ds,H d=none/\d≠p/\H2 d=some (.dT []))
 refine⟨_,rfl,a,rfl,⟨_,gO.of (s1 a _ ha)⟩,iV (K:=K) (a:=a) (xs:=as.map V.ref) Jv
  ⟨none,[],rfl,s1,b_,rfl,aa9,λd hd=>by cases hd⟩ (by rintro _ _ _ _ ⟨_,_,_,s3,_⟩;exact gO.of (s3 a _ ha)) ?_ ?_⟩
 ·rintro i v Z H2 hx ⟨v0,ds,rfl,s3,h1,h2,h3,h4⟩
  obtain⟨b,hb,rfl⟩:=j9 hx
  obtain⟨l,hl,dx,vn,vu,vl,g1,⟨t,rfl,g2⟩,g3,g4⟩:=ik pa hb
  have hi:i<ls.length:=(List.getElem?_eq_some_iff.mp hl).1
  intro d hd
  have s4:gs H (upd H2 d (.dT [])):=s3.new hd
  have XN:d≠p:=λz=>by rw[z,h1] at hd;cases hd
  have LU:d∉ds:=λz=>by rw[(h4 d z).2.2] at hd;cases hd
  have Nl:upd H2 d (.dT []) p=some (.dT (zk ((ls.take i).map (·.nm)) ds)):=by rw[e_ XN.symm];exact h1
  have AF:l.nm∉(ls.take i).map (·.nm):=λz=>by
   have e2:(ls.map (·.nm)).take i=(ls.take i).map (·.nm):=List.map_take.symm
   rw[<-e2] at z
   obtain⟨j,hj,e⟩:=aaG.mp z |>.imp λj h=>(⟨(List.getElem?_eq_some_iff.mp h).1,h⟩:j<((ls.map (·.nm)).take i).length/\((ls.map (·.nm)).take i)[j]?=some l.nm)
   have Jk:j<i:=by rw[aaC] at hj;omega
   rw[abN,aan Jk] at e
   have e3:(ls.map (·.nm))[i]?=some l.nm:=by rw[aam,hl];rfl
   have:=(abJ (List.getElem?_eq_some_iff.mp e).1 nd).mp (e.trans e3.symm)
   omega
  refine⟨_,rfl,_,rfl,b,A.gW,dx,_,_,rfl,s4 _ _ g1,O.iR,O.gT,i6,p,_,rfl,nN.t (k:=nk l.nm) Nl (s4 _ _ g2) ?_,?_⟩
  ·have:(zk ((ls.take i).map (·.nm)) ds).length<=ds.length:=by unfold zk;rw[List.length_zipWith];exact Nat.min_le_right _ _
   rw[h2,Ob,aaC] at this
   exact abm (m:=4000) (by have:xo ls.length:=jS;unfold xo at this;omega) (by decide)
  ·have e:putK (zk ((ls.take i).map (·.nm)) ds) (nk l.nm) (V.ref d)=zk ((ls.take (i+1)).map (·.nm)) (ds++[d]):=by
    rw[take_snoc hl,aau]
    show _=zk (_++[l.nm]) _
    rw[Hg _ _ h2.symm]
    refine Ej _ ?_
    exact E1 (by rw[C3 h2.symm];exact λz=>AF (sO.mp z))
   rw[e]
   refine⟨_,ds++[d],rfl,s4.upd hp,b_,?_,?_,?_⟩
   ·rw[take_snoc hl,aau,XF,XF,h2];rfl
   ·rw[aaZ]
    exact⟨h3,by simp,λx hx y hy z=>LU (by rw[WO.mp hy] at z;exact z▸hx)⟩
   ·intro x hx
    rcases ZU.mp hx with hx|hx
    ·obtain⟨k1,k2,k3⟩:=h4 x hx
     refine⟨k1,k2,?_⟩
     rw[e_ k2,e_ (λz=>by rw[z] at hx;exact LU hx)]
     exact k3
    ·rw[WO.mp hx]
     exact⟨s3.free hd,XN,by rw[e_ XN];exact b_⟩
 ·rintro Z H2 ⟨v0,ds,rfl,s3,h1,h2,h3,h4⟩
  have el:(as.map V.ref).length=ls.length:=by rw[Ob];exact hlen
  rw[el,aaq] at h1 h2
  have Vz:=h2.symm
  have Du:∀n∈ls.map (·.nm),iT (zk (ls.map (·.nm)) ds) (nk n)=some (.ref (tU (ls.map (·.nm)) ds n)):=λn hn=>KC Vz hn
  have Nw:∀n∈ls.map (·.nm),∀m∈ls.map (·.nm),tU (ls.map (·.nm)) ds n=tU (ls.map (·.nm)) ds m->n=m:=λn hn m hm e=>KD Vz h3 hn hm e
  have yI:∀n∈ls.map (·.nm),H (tU (ls.map (·.nm)) ds n)=none/\tU (ls.map (·.nm)) ds n≠p/\H2 (tU (ls.map (·.nm)) ds n)=some (.dT []):=λn hn=>h4 _ (C4 Vz hn)
  generalize tU (ls.map (·.nm)) ds=ad at Du Nw yI
  have Od:=C3 Vz
  generalize zk (ls.map (·.nm)) ds=kvs at h1 Du Od
  dsimp only [nE];refine LN ?_;intro _
  let Jv:=λ(i:Nat) (Z:St) (H3:Hp)=>∃(v:Option V)(sf:Nm->List Nm),Z=[rr a,rr p,v]/\gs H H3/\H3 p=some (.dT kvs)/\(∀n∈ls.map (·.nm),Bc H3 (ad n) (sf n))/\∀n,(sf n).Nodup/\(sf n).length<=2*i/\∀m,m∈sf n↔Sa (ls.take i) m n
  refine⟨_,rfl,a,rfl,⟨_,gO.of (s3 a _ ha)⟩,iV (K:=K) (a:=a) (xs:=as.map V.ref) Jv
   ⟨v0,λ_=>[],rfl,s3,h1,λn hn=>⟨[],(yI n hn).2.2,rfl⟩,λn=>⟨aa9,aaI _,λm=>⟨(λz=>by cases z),λ⟨x,hx,_⟩=>by rw[aby] at hx;cases hx⟩⟩⟩ (by rintro _ _ _ _ ⟨_,_,_,s3,_⟩;exact gO.of (s3 a _ ha)) ?_ ?_⟩
  ·rintro i v Z H3 hx ⟨v1,sf,rfl,s4,k1,k2,k3⟩
   obtain⟨b,hb,rfl⟩:=j9 hx
   obtain⟨l,hl,dx,vn,vu,vl,g1,⟨t,rfl,g2⟩,g3,g4⟩:=ik pa hb
   have hi:i<ls.length:=(List.getElem?_eq_some_iff.mp hl).1
   have hi4:i<4000:=aaB hi jS
   have wz:l.nm∈ls.map (·.nm):=YO (WW hl)
   have step:∀{H3:Hp} {sf:Nm->List Nm} {n m:Nm},gs H H3->H3 p=some (.dT kvs)->(∀n∈ls.map (·.nm),Bc H3 (ad n) (sf n))->n∈ls.map (·.nm)->∀dk,H3 (ad n)=some (.dT dk)->dk.map (·.1)=(sf n).map nk->
     gs H (upd H3 (ad n) (.dT (putK dk (nk m) (V.bl true))))/\upd H3 (ad n) (.dT (putK dk (nk m) (V.bl true))) p=some (.dT kvs)/\(∀x∈ls.map (·.nm),Bc (upd H3 (ad n) (.dT (putK dk (nk m) (V.bl true)))) (ad x) (if x=n then oB (sf n) m else sf x)):=λ{H3 sf n m} s4 k1 k2 hn dk hdk XO=>by
    refine⟨s4.upd (yI n hn).1,by rw[e_ (yI n hn).2.1.symm];exact k1,λx hx=>?_⟩
    by_cases e:x=n
    ·subst e
     rw[aan rfl]
     exact⟨_,b_,wb XO m _⟩
    ·rw[aac e]
     obtain⟨QB,e1,e2⟩:=k2 x hx
     exact⟨QB,by rw[e_ (λz=>e (Nw x hx n hn z))];exact e1,e2⟩
   have VA:∀m n,Sa (ls.take (i+1)) m n↔Sa (ls.take i) m n\/(l.nm=n/\l.up=some m)\/(l.nm=m/\l.lo=some n):=λm n=>by rw[take_snoc hl];exact MP
   refine⟨λZ H4=>∃sf:Nm->List Nm,Z=[rr a,rr p,rr b]/\gs H H4/\H4 p=some (.dT kvs)/\(∀n∈ls.map (·.nm),Bc H4 (ad n) (sf n))/\∀n,(sf n).Nodup/\(sf n).length<=2*i+1/\∀m,m∈sf n↔Sa (ls.take i) m n\/(l.nm=n/\l.up=some m),?_,?_⟩
   ·refine⟨_,rfl,b,A.gW,dx,_,_,rfl,s4 _ _ g1,O.iR,O.iH,Gh,_,rfl,?_⟩
    cases hu:l.up with
    | none=>
     rw[hu] at g3
     rw[show vu=V.jg from g3]
     exact⟨sf,rfl,s4,k1,k2,λn=>⟨(k3 n).1,by have:=(k3 n).2.1;omega,λm=>by rw[(k3 n).2.2 m];exact⟨.inl,λz=>z.elim id λz=>by cases z.2⟩⟩⟩
    | some u=>
     rw[hu] at g3
     obtain⟨tu,rfl,gu⟩:=(show lD H vu u from g3)
     obtain⟨dk,e1,e2⟩:=k2 l.nm wz
     have hdl:dk.length=(sf l.nm).length:=by have:=aaQ List.length e2;rwa [Ob,Ob] at this
     refine⟨_,rfl,_,rfl,b,A.gW,dx,_,_,rfl,s4 _ _ g1,O.iR,O.gT,i6,p,.ref (ad l.nm),rfl,?_,_,rfl,b,A.gW,dx,_,_,rfl,s4 _ _ g1,O.iR,O.iH,Gh,ad l.nm,_,rfl,nN.t (k:=nk u) e1 (s4 _ _ gu) (abm (m:=8000) (by have:=(k3 l.nm).2.1;omega) (by decide)),?_⟩
     ·have:=ja.t (k:=nk l.nm) k1 (s4 _ _ g2)
      rw[Du _ wz] at this
      exact this
     ·obtain⟨z1,z2,z3⟩:=step (m:=u) s4 k1 k2 wz dk e1 e2
      refine⟨λx=>if x=l.nm then oB (sf l.nm) u else sf x,rfl,z1,z2,z3,λn=>?_⟩
      obtain⟨y1,y2,y3⟩:=k3 n
      show(if n=l.nm then oB (sf l.nm) u else sf n).Nodup/\(if n=l.nm then oB (sf l.nm) u else sf n).length<=_/\∀m,m∈(if n=l.nm then oB (sf l.nm) u else sf n)↔_
      by_cases e:n=l.nm
      ·subst e
       rw[aan rfl]
       have:=E2 (l:=sf l.nm) (m:=u)
       refine⟨zc y1,by omega,λm=>?_⟩
       rw[sP,y3 m]
       exact⟨λz=>z.elim .inl λz=>.inr ⟨rfl,by rw[z]⟩,λz=>z.elim .inl λz=>.inr (aaz z.2).symm⟩
      ·rw[aac e]
       refine⟨y1,by omega,λm=>?_⟩
       rw[y3 m]
       exact⟨.inl,λz=>z.elim id λz=>absurd z.1.symm e⟩
   ·rintro Z H4 ⟨HJ,rfl,s5,k4,k5,k6⟩
    have fin:∀(QC:Nm->List Nm)(n:Nm),((QC n).Nodup/\(QC n).length<=2*i+2/\∀m,m∈QC n↔(Sa (ls.take i) m n\/(l.nm=n/\l.up=some m))\/(l.nm=m/\l.lo=some n))->(QC n).Nodup/\(QC n).length<=2*(i+1)/\∀m,m∈QC n↔Sa (ls.take (i+1)) m n:=λQC n ⟨z1,z2,z3⟩=>
     ⟨z1,by omega,λm=>by rw[z3 m,VA m n,or_assoc]⟩
    refine⟨_,rfl,b,A.gW,dx,_,_,rfl,s5 _ _ g1,O.iR,O.iI,Gi,_,rfl,?_⟩
    cases hu:l.lo with
    | none=>
     rw[hu] at g4
     rw[show vl=V.jg from g4]
     refine⟨_,HJ,rfl,s5,k4,k5,λn=>fin HJ n ⟨(k6 n).1,by have:=(k6 n).2.1;omega,λm=>?_⟩⟩
     rw[(k6 n).2.2 m,hu]
     exact⟨.inl,λz=>z.elim id λz=>by cases z.2⟩
    | some d=>
     have LU:d∈ls.map (·.nm):=(cl l (WW hl)).2 d hu
     rw[hu] at g4
     obtain⟨td,rfl,gd⟩:=(show lD H vl d from g4)
     obtain⟨dk,e1,e2⟩:=k5 d LU
     have hdl:dk.length=(HJ d).length:=by have:=aaQ List.length e2;rwa [Ob,Ob] at this
     refine⟨_,rfl,_,rfl,b,A.gW,dx,_,_,rfl,s5 _ _ g1,O.iR,O.iI,Gi,p,.ref (ad d),rfl,?_,_,rfl,b,A.gW,dx,_,_,rfl,s5 _ _ g1,O.iR,O.gT,i6,ad d,_,rfl,nN.t (k:=nk l.nm) e1 (s5 _ _ g2) (abm (m:=8001) (by have:=(k6 d).2.1;omega) (by decide)),?_⟩
     ·have:=ja.t (k:=nk d) k4 (s5 _ _ gd)
      rw[Du _ LU] at this
      exact this
     ·obtain⟨z1,z2,z3⟩:=step (m:=l.nm) s5 k4 k5 LU dk e1 e2
      refine⟨_,λx=>if x=d then oB (HJ d) l.nm else HJ x,rfl,z1,z2,z3,λn=>fin (λx=>if x=d then oB (HJ d) l.nm else HJ x) n ?_⟩
      obtain⟨y1,y2,y3⟩:=k6 n
      show(if n=d then oB (HJ d) l.nm else HJ n).Nodup/\(if n=d then oB (HJ d) l.nm else HJ n).length<=_/\∀m,m∈(if n=d then oB (HJ d) l.nm else HJ n)↔_
      by_cases e:n=d
      ·subst e
       rw[aan rfl]
       have:=E2 (l:=HJ n) (m:=l.nm)
       refine⟨zc y1,by omega,λm=>?_⟩
       rw[sP,y3 m,hu]
       exact⟨λz=>z.elim .inl λz=>.inr ⟨z.symm,rfl⟩,λz=>z.elim .inl λz=>.inr z.1.symm⟩
      ·rw[aac e]
       refine⟨y1,by omega,λm=>?_⟩
       rw[y3 m,hu]
       exact⟨.inl,λz=>z.elim id λz=>absurd (aaz z.2).symm e⟩
  ·rintro Z H3 ⟨v1,sf,rfl,s4,k1,k2,k3⟩
   rw[Ob,hlen] at k3
   exact⟨_,rfl,q p _ ad sf s4 hp (λn hn=>(yI n hn).1) ⟨⟨kvs,k1,Du,Od⟩,Nw,k2⟩ λn=>⟨(k3 n).1,λm=>by rw[(k3 n).2.2 m,aaq]⟩⟩
theorem lD.upd{H:Hp}{v:V}{n:Nm}{x:Addr}{o o':HO}(h:lD H v n)(hx:H x=some o')(ht:∀xs,o'≠.tup xs):lD (L2.upd H x o) v n:=by
 obtain⟨t,e,TK⟩:=h
 exact⟨t,e,by rw[e_ (i9 TK hx (λz=>ht _ z.symm))];exact TK⟩
theorem sQ{dk:List (List Key×V)}{l:List Nm}(h:dk.map (·.1)=l.map nk):dk.length=l.length:=by
 have:=aaQ List.length h
 rwa [Ob,Ob] at this
theorem E3{dk:List (List Key×V)}{l:List Nm}(h:dk.map (·.1)=l.map nk){i:Nat}{k:List Key}{v:V}(hi:dk[i]?=some (k,v)):∃n,l[i]?=some n/\k=nk n:=by
 have h1:(dk.map (·.1))[i]?=some k:=by rw[aam,hi];rfl
 rw[h,aam] at h1
 obtain⟨n,e,e2⟩:=Option.map_eq_some_iff.mp h1
 exact⟨n,e,e2.symm⟩
theorem keys_has{dk:List (List Key×V)}{l:List Nm}(h:dk.map (·.1)=l.map nk)(n:Nm):(iT dk (nk n)).isSome=decide (n∈l):=by
 by_cases m:n∈l
 ·rw[WV m];exact tM.mpr (by rw[h];exact sO.mpr m)
 ·rw[ZW m,abG];exact λz=>m (sO.mp (by rw[<-h];exact tM.mp z))
theorem E4:∀(more:List (List Key×V))(dk:List (List Key×V))(l r:List Nm),dk.map (·.1)=l.map nk->more.map (·.1)=r.map nk->l.Nodup->∃l':List Nm,(putAll dk more).map (·.1)=l'.map nk/\l'.Nodup/\∀m,m∈l'↔m∈l\/m∈r
 | [],dk,l,r,h1,h2,nd=>by
  have:r=[]:=by cases r with|nil=>rfl|cons _ _=>cases h2
  subst this
  exact⟨l,h1,nd,λm=>by simp⟩
 | p::t,dk,l,r,h1,h2,nd=>by
  cases r with
  | nil=>cases h2
  | cons x r=>
   rw[aat,aat] at h2
   injection h2 with e1 e2
   rw[rO,e1]
   obtain⟨l',z1,z2,z3⟩:=E4 t (putK dk (nk x) p.2) (oB l x) r (wb h1 x _) e2 (zc nd)
   refine⟨l',z1,z2,λm=>?_⟩
   rw[z3 m,sP,XH,or_assoc]
def Pr:Sp:=λvs H Q _=>∃(d a:Addr)(xs:List Nm)(ka:List (List Key×V))(af:Nm->List Nm),vs=[.ref d,.ref a]/\Bc H d xs/\d≠a/\H a=some (.dT ka)/\(∀x∈xs,∃b,iT ka (nk x)=some (.ref b)/\b≠d/\Bc H b (af x))/\xs.length<=4000/\(∀x∈xs,(af x).length<=4000)/\
 ∀p H' rs,gs H H'->H p=none->Bc H' p rs->rs.Nodup->(∀m,m∈rs↔∃x∈xs,m=x\/m∈af x)->Q (.ref p) H'
theorem ID(T:Txt mg)(O:Ok K mg A):il P w K mg base mD 1 A.EO A.ER ["names","ahead"] Pr:=by
 refine O.joined.f.q_ xc λjt A0 outer s H vs Q E hr h=>?_
 obtain⟨d,a,xs,ka,af,rfl,⟨kd,hd,hk⟩,hda,ha,hb,hx4,haf,q⟩:=h
 refine⟨_,(de (k8 2 xc mB)
   (de (y8 (ix aar rfl (zG (pv 0)) (rF 3 xc) (de (jB (by exact iZ hr) (pv 2) (pv 3) kG rfl)
   (f_ (h_ (Kf (by exact iZ hr) (pv 2) (zJ hr (pv 1) (pv 3)) ⟨rfl,rfl,rfl,rfl⟩))))))
   (f_ (gZ (pv 2))))),?_⟩
 refine Ep ?_;intro _ _
 intro p hp
 have QD:p≠d:=(gv hd hp).symm
 have TR:p≠a:=(gv ha hp).symm
 refine⟨_,rfl,d,kd,rfl,by rw[e_ QD.symm];exact hd,λo uz=>?_⟩
 have Jo:=sQ hk
 let Jv:=λ(i:Nat) (Z:St) (H2:Hp)=>∃(v:Option V)(kf:List (List Key×V))(rs:List Nm),Z=[rr d,rr a,rr p,v]/\(∀b o,H b=some o->b≠d->H2 b=some o)/\H2 d=some (.nB o (.dT kd))/\H2 p=some (.dT kf)/\kf.map (·.1)=rs.map nk/\rs.Nodup/\kf.length<=i*4001/\∀m,m∈rs↔∃x∈xs.take i,m=x\/m∈af x
 refine BM (d:=d) (o:=o) (kvs:=kd) Jv
  ⟨none,[],[],rfl,λb o e nb=>by rw[e_ nb,e_ (gv e hp)];exact e,b_,by rw[e_ QD];exact b_,rfl,aa9,by simp,λm=>by simp⟩ (by rintro _ _ _ ⟨_,_,_,_,_,e,_⟩;exact e) ?_ ?_
 ·rintro i k v t Z H2 hi ht ⟨v0,kf,rs,rfl,h1,h2,h3,h4,h5,h6,h7⟩
  obtain⟨x,hx,rfl⟩:=E3 hk hi
  have TU:x∈xs:=WW hx
  have Br:i<xs.length:=(List.getElem?_eq_some_iff.mp hx).1
  obtain⟨b,e1,e2,kb,e3,e4⟩:=hb x TU
  have hbp:b≠p:=gv e3 hp
  have N_:=sQ e4
  have hb4:=haf x TU
  have htp:t≠p:=λz=>by rw[z,h3] at ht;cases ht
  have hl:=jr kf (nk x) (V.bl true)
  have sz:sizeLine=16777216:=aaw
  have hmul:i*4001<=4000*4001:=Nat.mul_le_mul_right _ (by omega)
  refine⟨_,rfl,_,rfl,p,_,rfl,nN.t (k:=nk x) h3 ht (by omega),?_⟩
  have qo:putK kf (nk x) (V.bl true)≠[]:=λz=>by
   have:=wb h4 x (V.bl true)
   rw[z] at this
   have hm:x∈oB rs x:=sP.mpr (.inr rfl)
   cases hq:oB rs x with
   | nil=>rw[hq] at hm;cases hm
   | cons _ _=>rw[hq] at this;cases this
  refine⟨_,rfl,p,rfl,.inr ⟨_,.inl b_⟩,_,rfl,_,rfl,a,.ref b,rfl,?_,b,_,kb,rfl,b_,.inl (by rw[e_ hbp];exact h1 _ _ e3 e2),hbp.symm,qo,by omega,?_⟩
  ·have:=ja.t (H:=L2.upd H2 p (.dT (putK kf (nk x) (V.bl true)))) (k:=nk x) (by rw[e_ TR.symm];exact h1 a _ ha hda.symm) (b:=t) (by rw[e_ htp];exact ht)
   rw[e1] at this
   exact this
  ·obtain⟨l',z1,z2,z3⟩:=E4 kb _ (oB rs x) (af x) (wb h4 x (V.bl true)) e4 (zc h5)
   refine⟨_,_,l',rfl,λb o e nb=>?_,?_,b_,z1,z2,?_,λm=>?_⟩
   ·rw[e_ (gv e hp),e_ (gv e hp)];exact h1 b o e nb
   ·rw[e_ QD.symm,e_ QD.symm];exact h2
   ·have:=qv kb (putK kf (nk x) (V.bl true))
    have:(i+1)*4001=i*4001+4001:=Nat.succ_mul _ _
    omega
   ·rw[z3 m,sP,h7 m,take_snoc hx]
    constructor
    ·rintro((⟨y,hy,z⟩|z)|z)
     ·exact⟨y,aad _ hy,z⟩
     ·exact⟨x,by simp,.inl z⟩
     ·exact⟨x,by simp,.inr z⟩
    ·rintro⟨y,hy,z⟩
     rcases ZU.mp hy with hy|hy
     ·exact .inl (.inl ⟨y,hy,z⟩)
     ·rw[WO.mp hy] at z
      exact z.elim (λz=>.inl (.inr z)) .inr
 ·rintro Z H2 ⟨v0,kf,rs,rfl,h1,h2,h3,h4,h5,h6,h7⟩
  rw[Jo,aaq] at h7
  refine⟨d,o,_,h2,uz,_,rfl,q p _ rs (λb u e=>?_) hp ⟨kf,by rw[e_ QD];exact h3,h4⟩ h5 h7⟩
  by_cases XQ:b=d
  ·subst XQ;rw[b_];rw[hd] at e;exact e
  ·rw[e_ XQ];exact h1 b u e XQ
structure pB(ls:List Ln)(H1 H:Hp)(h:Addr)(S:List Nm)(af:Nm->List Nm):Prop where
 ex:∃kvs,H h=some (.dT kvs)/\kvs.map (·.1)=S.map nk/\∀n∈S,∃b,iT kvs (nk n)=some (.ref b)/\b≠h/\H1 b=none/\Bc H b (af n)
 nd:S.Nodup
 good:∀n∈S,n∈ls.map (·.nm)/\(af n).Nodup/\∀m,m∈af n↔Ah ls m n
theorem pB.same{ls:List Ln}{H1 H H':Hp}{h:Addr}{S:List Nm}{af:Nm->List Nm}(x:pB ls H1 H h S af)(s:gs H H'):pB ls H1 H' h S af:=by
 obtain⟨⟨kvs,e1,e2,e3⟩,nd,g⟩:=x
 refine⟨⟨kvs,s _ _ e1,e2,λn hn=>?_⟩,nd,g⟩
 obtain⟨b,z1,z2,z3,dk,z4,z5⟩:=e3 n hn
 exact⟨b,z1,z2,z3,dk,s _ _ z4,z5⟩
theorem pB.lst{ls:List Ln}{H1 H:Hp}{h c:Addr}{S:List Nm}{af:Nm->List Nm}{xs:List V}{o:HO}(x:pB ls H1 H h S af)(hc:H c=some (.lst xs)):pB ls H1 (L2.upd H c o) h S af:=by
 obtain⟨⟨kvs,e1,e2,e3⟩,nd,g⟩:=x
 refine⟨⟨kvs,by rw[e_ (i9 e1 hc (λz=>by cases z))];exact e1,e2,λn hn=>?_⟩,nd,g⟩
 obtain⟨b,z1,z2,z3,dk,z4,z5⟩:=e3 n hn
 exact⟨b,z1,z2,z3,dk,by rw[e_ (i9 z4 hc (λz=>by cases z))];exact z4,z5⟩
theorem Hh{sf:Nm->List Nm}{B n:Nat}{st S:List Nm}(r:Run sf B n st S):st.length<=B:=by
 cases r with
 | nil=>exact aaI _
 | skip _ h _=>exact h
 | fin _ _ h _=>exact h
 | push _ _ h _=>exact h
theorem E5{Z Y:Type}{F:Z->Y->Prop}{vs:List Z}{xs:List Y}{x:Y}(p:Paired F vs (xs++[x])):∃Jp v,vs=Jp++[v]/\Paired F Jp xs/\F v x:=by
 induction xs generalizing vs with
 | nil=>
  cases p with
  | cons f t=>cases t;exact⟨[],_,rfl,.nil,f⟩
 | cons y r ih=>
  cases p with
  | cons f t=>
   obtain⟨Jp,v,rfl,h1,h2⟩:=ih t
   exact⟨_::Jp,v,rfl,.cons f h1,h2⟩
def C5(H:Hp)(p:Addr)(ls:List Ln):Prop:=∃kvs,H p=some (.dT kvs)/\∀n∈ls.map (·.nm),∃b dk,iT kvs (nk n)=some (.ref b)/\H b=some (.dT dk)/\∀m,(iT dk (nk m)).isSome=true↔Ah ls m n
theorem C5.same{H H':Hp}{p:Addr}{ls:List Ln}(x:C5 H p ls)(s:gs H H'):C5 H' p ls:=by
 obtain⟨kvs,e1,e2⟩:=x
 refine⟨kvs,s _ _ e1,λn hn=>?_⟩
 obtain⟨b,dk,z1,z2,z3⟩:=e2 n hn
 exact⟨b,dk,z1,s _ _ z2,z3⟩
def Sw(A:Ad):Sp:=λvs H Q _=>∃(a:Addr)(ls:List Ln),vs=[.ref a]/\qO A H a ls/\xo ls.length/\(ls.map (·.nm)).Nodup/\qy ls/\Kl ls/\∀p H',gs H H'->H p=none->C5 H' p ls->Q (.ref p) H'
theorem C6(T:Txt mg)(O:Ok K mg A):il P w K mg base mD 2 A.ya A.yb ["lines"] (Sw A):=by
 have xB:=@wc P w K mg base A T O
 have Lv:=@ID P w K mg base A T O
 refine O.BQ.f.q_ jJ λjt A0 outer s H vs Q E hr h=>?_
 obtain⟨a,ls,rfl,la,jS,nd,cl,tp,q⟩:=h
 obtain⟨as,ha,pa⟩:=id la
 have hlen:=aak pa
 have yX:ls.length<=4000:=jS
 refine⟨_,(de (k8 1 jJ (oM O.sG xB hr (a_ (pv 0) d_)))
   (de (mS (i:=2) jJ.nd rfl (Or.inr rfl) mB)
   (de (ix aar rfl (iq (pv 0)) (rF 3 jJ) (de (k8 4 jJ (iQ (a_ (gK (pv 3) rfl) d_)))
   (f_ (D7 aar (vg (pv 4) (λ_=>rfl)) (de (k8 5 jJ (OO aaF PySem.F.slot_list_pop PySem.F.type_list_pop OQ (pv 4)))
   (de (iC (jv (ph (by exact iZ hr) (pv 5) (pv 2))) (f_ (D6)) g_)
   (de (y8 (Cw (j:=6) xV (gr oN).names [7] jJ.nd rfl rfl rfl (zG (zJ hr (pv 1) (pv 5))) rfl (by decide+kernel) (λ_ _ _ _=>(iK (i:=7) jJ.nd rfl (Or.inl rfl))) (λ_ _ _ _=>⟨_,qr (jv (lu (by exact iZ hr) (pv 7) (pv 2))),by(try simp only [lH]);rfl⟩) (λ_ _ _ _=>CD (pv 7))))
   (f_ (iC (vg (pv 6) (λ_=>rfl)) (de (h_ (nS aaF aaS aaT kj (pv 4) (a_ (pv 5) d_)))
   (f_ (h_ (nS aaF PySem.F.slot_list_extend PySem.F.type_list_extend BD (pv 4) (a_ (pv 6) d_))))) (f_ (jB (by exact iZ hr) (pv 2) (pv 5) (oM O.joined Lv hr (a_ (zJ hr (pv 1) (pv 5)) (a_ (pv 2) d_))) rfl)))))))))))
   (f_ (gZ (pv 2)))))),?_⟩
 refine O5 ?_;intro _ _ _
 refine⟨_,rfl,a,ls,rfl,la,jS,nd,cl,λst H1 ad sf s1 hst0 had0 xy QE=>?_⟩
 obtain⟨⟨kst,Nx,TV,hst3⟩,Nw,XO⟩:=xy
 have hN:(1+ls.length*ls.length)<=16000001:=by have:=Nat.mul_le_mul yX yX;omega
 have sz:sizeLine=16777216:=aaw
 have TX:∀n,(sf n).length<=4000:=λn=>by
  have:=len_sub (ys:=ls.map (·.nm)) (QE n).1 λy hy=>(cl.sa (((QE n).2 y).mp hy)).1
  rw[Ob] at this;omega
 intro h hh
 have s2:gs H1 (L2.upd H1 h (.dT [])):=(gs.refl H1).new hh
 dsimp only [nE];refine LN ?_;intro _
 let Jv:=λ(i:Nat) (Z:St) (H2:Hp)=>∃(v3 v4 v5 v6:Option V)(S:List Nm)(af:Nm->List Nm),Z=[rr a,rr st,rr h,v3,v4,v5,v6,none]/\gs H1 H2/\pB ls H1 H2 h S af/\∀l∈ls.take i,l.nm∈S
 refine⟨_,rfl,a,rfl,⟨_,gO.of (s2 _ _ (s1 _ _ ha))⟩,iV (K:=K) (a:=a) (xs:=as.map V.ref) Jv
  ⟨none,none,none,none,[],λ_=>[],rfl,s2,⟨⟨[],b_,rfl,λn hn=>by cases hn⟩,aa9,λn hn=>by cases hn⟩,λl hl=>by rw[aby] at hl;cases hl⟩ (by rintro _ _ _ _ ⟨_,_,_,_,_,_,_,s3,_⟩;exact gO.of (s3 _ _ (s1 _ _ ha))) ?_ ?_⟩
 ·rintro i v Z H2 hx ⟨v3,v4,v5,v6,S0,af0,rfl,s3,D0,hS0⟩
  obtain⟨b,hb,rfl⟩:=j9 hx
  obtain⟨l,hl,dx,vn,vu,vl,g1,⟨t0,rfl,g2⟩,g3,g4⟩:=ik pa hb
  have wz:l.nm∈ls.map (·.nm):=YO (WW hl)
  refine⟨_,rfl,b,A.gW,dx,_,_,rfl,s3 _ _ (s1 _ _ g1),O.iR,O.gT,i6,L2.jS,λc hc=>?_⟩
  have QF:H1 c=none:=s3.free hc
  have s4:gs H1 (L2.upd H2 c (.lst [.ref t0])):=s3.new hc
  obtain⟨n0,r0⟩:=Km cl tp QE l.nm S0
  refine⟨λm Z H3=>∃(v5 v6:Option V)(sk S:List Nm)(af:Nm->List Nm)(cv:List V),Z=[rr a,rr st,rr h,rr b,rr c,v5,v6,none]/\Run sf (1+ls.length*ls.length) m sk S/\gs H1 H3/\H3 c=some (.lst cv)/\Paired (lD H3) cv sk.reverse/\pB ls H1 H3 h S af/\(∀y∈sk,y∈ls.map (·.nm))/\(l.nm∈sk\/l.nm∈S)/\(∀y∈S0,y∈S),
   ⟨n0,v5,v6,[l.nm],S0,af0,[.ref t0],rfl,r0,s4,b_,.cons ⟨t0,rfl,s4 _ _ (s1 _ _ g2)⟩ .nil,D0.same ((gs.refl H2).new hc),λy hy=>by rw[WO.mp hy];exact wz,.inl (by simp),λ_ z=>z⟩,?_⟩
  rintro m Z H3 ⟨v5,v6,sk,S,af,cv,rfl,run,s5,QG,XR,D,XS,N9,hS⟩
  cases sk with
  | nil=>
   have:cv=[]:=by cases XR;rfl
   subst this
   refine⟨_,rfl,false,.inl ⟨_,gO.of QG,rfl⟩,jD ?_⟩
   refine⟨_,_,_,_,S,af,rfl,s5,D,λy hy=>?_⟩
   rw[take_snoc hl] at hy
   rcases ZU.mp hy with hy|hy
   ·exact hS _ (hS0 y hy)
   ·rw[WO.mp hy]
    exact N9.elim (λz=>by cases z) id
  | cons x sk=>
   rw[List.reverse_cons] at XR
   obtain⟨Jq,vx,rfl,TY,t,rfl,ht⟩:=E5 XR
   have VB:x∈ls.map (·.nm):=XS x aap
   have TZ:∀y∈sk,y∈ls.map (·.nm):=λy hy=>XS y (aaa _ hy)
   have Oc:Jq.length=sk.length:=by have:=aak TY;rwa [abj] at this
   refine⟨_,rfl,true,.inl ⟨_,gO.of QG,by simp⟩,lX ?_⟩
   obtain⟨n,hn,run'⟩:∃n,m=n+1/\(x∈S/\Run sf (1+ls.length*ls.length) n sk S\/x∉S/\EB sf S x=[]/\Run sf (1+ls.length*ls.length) n sk (S++[x])\/x∉S/\EB sf S x≠[]/\Run sf (1+ls.length*ls.length) n ((EB sf S x).reverse++x::sk) S):=by
    cases run with
    | skip z1 _ z2=>exact⟨_,rfl,.inl ⟨z1,z2⟩⟩
    | fin z1 z2 _ z3=>exact⟨_,rfl,.inr (.inl ⟨z1,z2,z3⟩)⟩
    | push z1 z2 _ z3=>exact⟨_,rfl,.inr (.inr ⟨z1,z2,z3⟩)⟩
   have Vo:sk.length+1<=16000001:=by have:=Hh run;rw[ZY] at this;omega
   subst hn
   refine⟨λZ H4=>∃(v5 v6:Option V)(sk S:List Nm)(af:Nm->List Nm)(cv:List V),Z=[rr a,rr st,rr h,rr b,rr c,v5,v6,none]/\Run sf (1+ls.length*ls.length) n sk S/\gs H1 H4/\H4 c=some (.lst cv)/\Paired (lD H4) cv sk.reverse/\pB ls H1 H4 h S af/\(∀y∈sk,y∈ls.map (·.nm))/\(l.nm∈sk\/l.nm∈S)/\(∀y∈S0,y∈S),λZ' H' z=>⟨n,acf n,z⟩,?_⟩
   refine⟨_,rfl,.inl ⟨rfl,_,gO.of QG⟩,c,_,.ref t,rfl,rfl,QG,by simp,?_⟩
   rw[List.dropLast_concat]
   have D4:pB ls H1 (L2.upd H3 c (.lst Jq)) h S af:=D.lst QG
   have s6:gs H1 (L2.upd H3 c (.lst Jq)):=s5.upd QF
   have p4:Paired (lD (L2.upd H3 c (.lst Jq))) Jq sk.reverse:=Paired.jh TY λ_ _ z=>z.upd QG (λ_ z=>by cases z)
   have Rq:L2.upd H3 c (.lst Jq) t=some (nT x):=by rw[e_ (i9 ht QG (λz=>by cases z))];exact ht
   have Rr:L2.upd H3 c (.lst Jq) c=some (.lst Jq):=b_
   generalize L2.upd H3 c (.lst Jq)=H4 at D4 s6 p4 Rq Rr ⊢
   obtain⟨⟨kvs,e1,e2,e3⟩,XT,good⟩:=id D4
   refine⟨_,rfl,_,rfl,h,_,rfl,ja.t (k:=nk x) e1 Rq,_,rfl,?_⟩
   rw[keys_has e2 x]
   rcases run' with⟨Rt,r⟩|Oe
   ·rw[WV Rt]
    refine lX ⟨_,_,sk,S,af,Jq,rfl,r,s6,Rr,p4,D4,TZ,?_,hS⟩
    exact N9.elim (λz=>(XH.mp z).elim (λz=>.inr (z▸Rt)) .inl) .inr
   ·have Rt:x∉S:=Oe.elim (·.1) (·.1)
    rw[ZW Rt]
    refine jD ?_
    obtain⟨dk,XU,hd2⟩:=XO x VB
    have XW:=s6 _ _ XU
    have T1:ad x≠h:=gv XU hh
    refine⟨_,rfl,_,rfl,st,.ref (ad x),rfl,?_,ad x,dk,rfl,XW,λo uz=>?_⟩
    ·have:=ja.t (k:=nk x) (s6 _ _ Nx) Rq
     rw[TV x VB] at this
     exact this
    have XX:∀{y:Addr} {u:HO},y≠ad x->H4 y=some u->L2.upd H4 (ad x) (.nB o (.dT dk)) y=some u:=λny e=>by rw[e_ ny];exact e
    refine Kb (d:=ad x) (o:=o) (kvs:=dk) (by rw[sQ hd2];exact aai (TX x) (by decide)) (λi ys Z H5=>∃(v7:Option V),Z=[rr a,rr st,rr h,rr b,rr c,rr t,v6,v7]/\H5=L2.upd H4 (ad x) (.nB o (.dT dk))/\ys.length<=i/\Paired (lD (L2.upd H4 (ad x) (.nB o (.dT dk)))) ys (((sf x).take i).filter λy=>y∉S))
     ⟨none,rfl,rfl,WR _,.nil⟩ (by rintro _ _ _ _ ⟨_,_,e,e4,_⟩;subst e;exact⟨b_,e4⟩) ?_ ?_
    ·rintro i k v tb ys Z H5 hi XY ⟨v7,rfl,rfl,e4,e5⟩
     obtain⟨y,hy,rfl⟩:=E3 hd2 hi
     refine⟨_,rfl,_,rfl,h,_,rfl,ja.t (k:=nk y) (XX T1.symm e1) XY,_,rfl,?_⟩
     rw[keys_has e2 y,take_snoc hy,aaH]
     by_cases hm:y∈S
     ·rw[WV hm]
      refine jD ⟨_,rfl,rfl,by omega,?_⟩
      rw[aab (by simpa using hm),aa2,aaM]
      exact e5
     ·rw[ZW hm]
      refine lX ⟨_,rfl,_,rfl,rfl,NU,?_⟩
      rw[ZT (by simpa using hm),aa2]
      exact iz e5 ⟨tb,rfl,XY⟩
    ·rintro ys Z H5 ⟨v7,rfl,rfl,e4,e5⟩ p hp
     rw[sQ hd2,aaq] at e5
     have TR:p≠ad x:=λz=>by rw[z,b_] at hp;cases hp
     have T2:H4 p=none:=by rw[e_ TR] at hp;exact hp
     refine⟨ad x,o,_,by rw[e_ TR.symm];exact b_,uz,?_⟩
     rw[CA XW TR]
     have pm:Paired (lD H4) ys (EB sf S x):=Paired.jh e5 λv y ⟨tb,e,z⟩=>⟨tb,e,by
      have:tb≠ad x:=λw=>by rw[w,b_] at z;cases z
      rwa [e_ this] at z⟩
     have s7:gs H4 (L2.upd H4 p (.lst ys)):=(gs.refl H4).new T2
     have hyl:ys.length=(EB sf S x).length:=aak pm
     refine⟨_,rfl,!ys.isEmpty,.inl ⟨_,gO.of b_,rfl⟩,?_⟩
     rcases Oe with⟨_,VC,r⟩|⟨_,VC,r⟩
     ·
      have:ys=[]:=aaK.mp (by rw[hyl,VC];rfl)
      subst this
      refine jD ?_
      have wu:=CI.mp VC
      refine⟨_,rfl,_,rfl,st,.ref (ad x),rfl,?_,_,rfl,ad x,h,sf x,kvs,af,rfl,⟨dk,s7 _ _ XW,hd2⟩,T1,s7 _ _ e1,λy hy=>?_,TX x,λy hy=>?_,λp2 H6 rs s8 A2 T4 nd2 hm2=>?_⟩
      ·have:=ja.t (k:=nk x) (s7 _ _ (s6 _ _ Nx)) (s7 _ _ Rq)
       rw[TV x VB] at this
       exact this
      ·obtain⟨bb,z1,z2,z3,QB,z4,z5⟩:=e3 y (wu y hy)
       exact⟨bb,z1,(gv XU z3).symm,QB,s7 _ _ z4,z5⟩
      ·obtain⟨z1,z2,z3⟩:=good y (wu y hy)
       have:=len_sub (ys:=ls.map (·.nm)) z2 λm hm=>(cl.ah ((z3 m).mp hm)).1
       rw[Ob] at this;omega
      ·have s9:=s7.trans s8
       have hSl:S.length<=4000:=by
        have:=len_sub (ys:=ls.map (·.nm)) XT λm hm=>(good m hm).1
        rw[Ob] at this;omega
       have e6:H6 h=some (.dT kvs):=s9 _ _ e1
       refine⟨_,rfl,_,rfl,h,_,rfl,nN.t (k:=nk x) e6 (s9 _ _ Rq) (by rw[sQ e2];omega),?_⟩
       have T5:p2≠h:=(gv (s7 _ _ e1) A2).symm
       have XZ:H1 p2=none:=(s6.trans s7).free A2
       have key:putK kvs (nk x) (V.ref p2)=kvs++[(nk x,V.ref p2)]:=Ej _ (E1 (by rw[e2];exact λz=>Rt (sO.mp z)))
       have hhT:H1 h=none:=hh
       refine⟨_,_,sk,S++[x],λy=>if y=x then rs else af y,Jq,rfl,r,(s6.trans s9).upd hhT,?_,?_,⟨⟨_,b_,?_,λy hy=>?_⟩,?_,λy hy=>?_⟩,TZ,?_,λy hy=>aad _ (hS y hy)⟩
       ·rw[e_ (i9 (s9 _ _ Rr) e6 (λz=>by cases z))];exact s9 _ _ Rr
       ·exact Paired.jh p4 λ_ _ z=>(z.same s9).upd e6 (λ_ z=>by cases z)
       ·rw[key,aau,e2,aau];rfl
       ·show ∃bb,iT (putK kvs (nk x) (V.ref p2)) (nk y)=some (V.ref bb)/\bb≠h/\H1 bb=none/\Bc _ bb (if y=x then rs else af y)
        rw[kc]
        by_cases e:y=x
        ·subst e
         rw[aan rfl,aan rfl]
         obtain⟨QB,w1,w2⟩:=T4
         exact⟨p2,rfl,T5,XZ,QB,by rw[e_ T5];exact w1,w2⟩
        ·rw[aac (λz=>e (pA z)),aac e]
         have hyS:y∈S:=(ZU.mp hy).elim id λz=>absurd (WO.mp z) e
         obtain⟨bb,z1,z2,z3,QB,z4,z5⟩:=e3 y hyS
         exact⟨bb,z1,z2,z3,QB,by rw[e_ z2];exact s9 _ _ z4,z5⟩
       ·rw[aaZ]
        exact⟨XT,by simp,λu hu w hw z=>Rt (by rw[WO.mp hw] at z;have z:u=x:=z;exact z▸hu)⟩
       ·show y∈ls.map (·.nm)/\(if y=x then rs else af y).Nodup/\∀m,m∈(if y=x then rs else af y)↔Ah ls m y
        by_cases e:y=x
        ·subst e
         rw[aan rfl]
         refine⟨VB,nd2,λm=>?_⟩
         rw[hm2 m,Ah.last]
         constructor
         ·rintro⟨u,hu,z⟩
          have VA:=((QE y).2 u).mp hu
          rcases z with z|z
          ·exact .inl (z▸VA)
          ·exact .inr ⟨u,((good u (wu u hu)).2.2 m).mp z,VA⟩
         ·rintro(z|⟨u,z1,z2⟩)
          ·exact⟨m,((QE y).2 m).mpr z,.inl rfl⟩
          ·have hu:=((QE y).2 u).mpr z2
           exact⟨u,hu,.inr (((good u (wu u hu)).2.2 m).mpr z1)⟩
        ·rw[aac e]
         exact good y ((ZU.mp hy).elim id λz=>absurd (WO.mp z) e)
       ·exact N9.elim (λz=>(XH.mp z).elim (λz=>.inr (by rw[z];simp)) .inl) λz=>.inr (aad _ z)
     ·
      have hys:(!ys.isEmpty)=true:=by
       cases ys with
       | nil=>exact absurd (aaK.mp hyl.symm) VC
       | cons _ _=>rfl
      refine J2 hys ?_
      have DV:=Hh r
      rw[XF,abj,ZY] at DV
      have VD:=s7 _ _ Rr
      refine⟨_,rfl,.inl ⟨rfl,_,gO.of VD⟩,_,rfl,c,_,_,rfl,rfl,VD,by omega,?_⟩
      have hpc:p≠c:=(gv Rr T2).symm
      refine⟨_,rfl,.inl ⟨rfl,_,gO.of b_⟩,_,rfl,c,p,_,_,rfl,rfl,b_,by rw[e_ hpc];exact b_,by rw[XF];show Jq.length+1+ys.length<=_;omega,?_⟩
      refine⟨_,_,(EB sf S x).reverse++x::sk,S,af,_,rfl,r,((s6.trans s7).upd QF).upd QF,b_,?_,((D4.same s7).lst VD).lst b_,λy hy=>?_,?_,hS⟩
      ·rw[List.reverse_append,List.reverse_reverse,List.reverse_cons]
       refine Paired.jh (F:=lD (L2.upd H4 p (.lst ys))) (uO (iz (Paired.jh p4 λ_ _ z=>z.same s7) ⟨t,rfl,s7 _ _ Rq⟩) (Paired.jh pm λ_ _ z=>z.same s7)) λ_ _ z=>?_
       exact(z.upd VD (λ_ z=>by cases z)).upd b_ (λ_ z=>by cases z)
      ·rcases ZU.mp hy with hy|hy
       ·have hy:=(aal.mp (List.mem_reverse.mp hy)).1
        exact(cl.sa (((QE x).2 y).mp hy)).1
       ·exact XS y hy
      ·exact N9.elim (λz=>.inl (aay _ z)) .inr
 ·rintro Z H2 ⟨v3,v4,v5,v6,S,af,rfl,s3,⟨⟨kvs,e1,e2,e3⟩,XT,good⟩,hS⟩
  rw[Ob,hlen,aaq] at hS
  refine⟨_,rfl,q h _ (s1.trans s3) (s1.free hh) ⟨kvs,e1,λn hn=>?_⟩⟩
  obtain⟨l,hl,rfl⟩:=aaA.mp hn
  obtain⟨bb,z1,z2,z3,dk,z4,z5⟩:=e3 _ (hS l hl)
  exact⟨bb,dk,z1,z4,λm=>by rw[tM,z5,sO];exact(good _ (hS l hl)).2.2 m⟩
theorem KG{Z:Type}[DecidableEq Z]:∀{kvs:List (Z×V)} {i:Nat} {k:Z} {v:V},(kvs.map (·.1)).Nodup->kvs[i]?=some (k,v)->iT kvs k=some v
 | [],_,_,_,_,h=>by simp at h
 | p::r,i,k,v,nd,h=>by
  rw[aat,aaW] at nd
  cases i with
  | zero=>simp at h;subst h;exact jl rfl
  | succ i=>
   have h:r[i]?=some (k,v):=by simpa using h
   have hm:k∈r.map (·.1):=aaA.mpr ⟨_,WW h,rfl⟩
   rw[jf (λz=>nd.1 (by rw[z];exact hm))]
   exact KG nd.2 h
theorem KH{Z:Type}[DecidableEq Z](kvs:List (Z×V))(k j:Z)(h:j≠k):iT (jZ kvs k) j=iT kvs j:=by
 induction kvs with
 | nil=>rfl
 | cons p r ih=>
  by_cases e:p.1=k
  ·rw[wM e,ih,jf (λz=>h (z.symm.trans e))]
  ·rw[wN e]
   by_cases e2:p.1=j
   ·rw[jl e2,jl e2]
   ·rw[jf e2,jf e2,ih]
theorem IE{kvs:List (List Key×V)}{rem:List Ln}{n:Nm}(h:kvs.map (·.1)=rem.map λl=>nk l.nm):(jZ kvs (nk n)).map (·.1)=(rem.filter λo=>o.nm≠n).map λl=>nk l.nm:=by
 induction kvs generalizing rem with
 | nil=>cases rem with|nil=>rfl|cons _ _=>cases h
 | cons p r ih=>
  cases rem with
  | nil=>cases h
  | cons x t=>
   rw[aat,aat] at h
   injection h with h1 h2
   by_cases e:x.nm=n
   ·rw[wM (by rw[h1,e]),aab (by simpa using e)]
    exact ih h2
   ·rw[wN (λz=>e (pA (h1.symm.trans z))),ZT (by simpa using e),aat,aat,ih h2,h1]
structure Wait(kw:List (List Key×V))(rem:List Ln)(f:Ln->Nat):Prop where
 keys:kw.map (·.1)=rem.map λl=>nk l.nm
 val:∀o∈rem,iT kw (nk o.nm)=some (.int (f o:Nat))
theorem Wait.len{kw:List (List Key×V)}{rem:List Ln}{f:Ln->Nat}(w:Wait kw rem f):kw.length=rem.length:=by
 have:=aaQ List.length w.keys
 rwa [Ob,Ob] at this
theorem Pu{rem:List Ln}:(rem.map λl=>nk l.nm)=(rem.map (·.nm)).map nk:=by rw[List.map_map];rfl
theorem Sx{xs:List Nm}(h:xs.Nodup):(xs.map nk).Nodup:=by
 induction xs with
 | nil=>exact aa9
 | cons x r ih=>
  rw[aaW] at h
  rw[aat,aaW]
  exact⟨λz=>h.1 (sO.mp z),ih h.2⟩
theorem Wait.nd{kw:List (List Key×V)}{rem:List Ln}{f:Ln->Nat}(w:Wait kw rem f)(h:(rem.map (·.nm)).Nodup):(kw.map (·.1)).Nodup:=by rw[w.keys,Pu];exact Sx h
theorem Wait.get{kw:List (List Key×V)}{rem:List Ln}{f:Ln->Nat}(w:Wait kw rem f)(h:(rem.map (·.nm)).Nodup){i:Nat}{k:List Key}{v:V}(hi:kw[i]?=some (k,v)):∃o,rem[i]?=some o/\k=nk o.nm/\v=.int (f o:Nat):=by
 have h1:(kw.map (·.1))[i]?=some k:=by rw[aam,hi];rfl
 rw[w.keys,aam] at h1
 obtain⟨o,e,e2⟩:=Option.map_eq_some_iff.mp h1
 refine⟨o,e,e2.symm,?_⟩
 have h2:=KG (w.nd h) hi
 rw[<-e2,w.val o (WW e)] at h2
 exact(aaz h2).symm
def WZ:Sp:=λvs H Q _=>∃(d:Addr)(kw:List (List Key×V))(rem:List Ln)(f:Ln->Nat)(l:Ln),vs=[.ref d]/\H d=some (.dT kw)/\Wait kw rem f/\(rem.map (·.nm)).Nodup/\rem.find? (λo=>f o ==0)=some l/\∀t,H t=some (nT l.nm)->Q (.ref t) H
theorem Be(T:Txt mg)(O:Ok K mg A):il P w K mg base mD 1 A.vO A.vP ["waiting"] WZ:=by
 refine O.Aj.f.q_ tZ λjt A0 outer s H vs Q E hr h=>?_
 obtain⟨d,kw,rem,f,l,rfl,hd,W,nd,hf,q⟩:=h
 refine⟨_,(de (y8 (ix aar rfl (zG (pv 0)) (rF 1 tZ) (f_ (iC (ij nF (zJ hr (pv 0) (pv 1)) gq (iP _)) (f_ (gZ (pv 1))) g_))))
   (f_ (gZ uv))),?_⟩
 refine JT ?_;intro _
 refine⟨_,rfl,d,kw,rfl,hd,λo uz=>?_⟩
 let Jv:=λ(i:Nat) (Z:St) (H2:Hp)=>∃(v:Option V),Z=[rr d,v]/\H2=L2.upd H d (.nB o (.dT kw))/\(rem.drop i).find? (λo=>f o ==0)=some l
 refine BM (d:=d) (o:=o) (kvs:=kw) Jv ⟨none,rfl,rfl,hf⟩ (by rintro _ _ _ ⟨_,_,e,_⟩;subst e;exact b_) ?_ ?_
 ·rintro i k v t Z H2 hi ht ⟨v0,rfl,rfl,h1⟩
  obtain⟨x,hx,rfl,rfl⟩:=W.get nd hi
  have jT:i<rem.length:=(List.getElem?_eq_some_iff.mp hx).1
  have hdr:rem.drop i=x::rem.drop (i+1):=by rw[aaP jT];congr 1;exact(List.getElem?_eq_some_iff.mp hx).2
  rw[hdr] at h1
  refine⟨_,rfl,_,rfl,d,_,rfl,.inr ⟨kw,nk x.nm,t,.inr ⟨o,b_⟩,rfl,ht,(W.val x (WW hx)).symm⟩,rfl,_,rfl,?_⟩
  refine kF (λh=>?_) (λh=>?_)
  ·have h:f x=0:=by have:=V.int.inj (aah h);omega
   rw[List.find?_cons_of_pos (by simpa using h)] at h1
   cases h1
   refine⟨_,rfl,d,o,_,b_,uz,?_⟩
   rw[wW hd]
   exact q t (by
    have:t≠d:=λz=>by rw[z,b_] at ht;cases ht
    rwa [e_ this] at ht)
  ·have h:¬f x=0:=λz=>h (WV (by rw[z];rfl))
   rw[List.find?_cons_of_neg (by simpa using h)] at h1
   exact⟨_,rfl,rfl,h1⟩
 ·rintro Z H2 ⟨v0,rfl,rfl,h1⟩
  rw[W.len,aci] at h1
  cases h1
end
section
open Classical
noncomputable def oC(lt:Nm->Nm->Prop)(rem:List Ln)(l:Ln):Nat:=(rem.filter λo=>decide (lt o.nm l.nm)).length
theorem KI(lt:Nm->Nm->Prop)(rem:List Ln):(λo=>oC lt rem o ==0)=free lt rem:=by
 funext o
 unfold oC free
 rw[aa4,abS,aaK,List.filter_eq_nil_iff,abc]
 exact⟨λh x hx=>by simpa using h x hx,λh x hx=>by simpa using h x hx⟩
theorem KJ{lt:Nm->Nm->Prop}{rem:List Ln}(nd:(rem.map (·.nm)).Nodup){l:Ln}(hl:l∈rem)(o:Ln):oC lt rem o=oC lt (rem.filter λx=>x.nm≠l.nm) o+if lt l.nm o.nm then 1 else 0:=by
 unfold oC
 induction rem with
 | nil=>cases hl
 | cons x r ih=>
  rw[aat,aaW] at nd
  rcases XH.mp hl with rfl|hl
  ·have e:r.filter (λx=>decide (x.nm≠l.nm))=r:=List.filter_eq_self.mpr λy hy=>WV λz=>nd.1 (z▸YO hy)
   rw[aab (p:=λx:Ln=>decide (x.nm≠l.nm)) (by simp),e]
   by_cases h:lt l.nm o.nm
   ·rw[ZT (by simpa using h),aan h,ZY]
   ·rw[aab (by simpa using h),aac h,Nat.add_zero]
  ·have hx:x.nm≠l.nm:=λz=>nd.1 (z▸YO hl)
   rw[ZT (p:=λx:Ln=>decide (x.nm≠l.nm)) (by simpa using hx)]
   by_cases h:lt x.nm o.nm
   ·rw[ZT (by simpa using h),ZT (by simpa using h),ZY,ZY,ih nd.2 hl];omega
   ·rw[aab (by simpa using h),aab (by simpa using h),ih nd.2 hl]
end
theorem KL{lt:Nm->Nm->Prop}{n:Nat}{rem:List Ln}{l:Ln}(h:rem.find? (free lt rem)=some l):rf lt (n+1) rem=l::rf lt n (rem.filter λo=>o.nm≠l.nm):=by
 rw[rf,h]
section
variable{P:Program}{w:World}{K:Qqy}{mg:Qqx}{base:Heap}{A:Ad}
def Sy(A:Ad):Sp:=λvs H Q _=>∃(a h:Addr)(ls al:List Ln),vs=[.ref a,.ref h]/\qO A H a ls/\C5 H h al/\xo ls.length/\(ls.map (·.nm)).Nodup/\(∀l∈ls,l.nm∈al.map (·.nm))/\Kl al/\
 ∀p H',gs H H'->H p=none->qO A H' p (rowOf (Ah al) ls)->Q (.ref p) H'
theorem IF(T:Txt mg)(O:Ok K mg A):il P w K mg base mD 2 A.ES A.ET ["lines","ahead"] (Sy A):=by
 have Dw:=@Be P w K mg base A T O
 refine O.Kx.f.q_ lx λjt A0 outer s H vs Q E hr h=>?_
 obtain⟨a,h,ls,al,rfl,⟨as,ha,pa⟩,⟨kh,LV,hh2⟩,jS,nd,xA,tp,q⟩:=h
 have hlen:=aak pa
 have yX:ls.length<=4000:=jS
 have sz:sizeLine=16777216:=aaw
 have tpl:∃rk:Nm->Nat,∀m n,Ah al m n->rk m<rk n:=by obtain⟨rk,r⟩:=tp;exact⟨rk,λm n z=>r.ah z⟩
 refine⟨_,(de (k8 2 lx mB)
   (de (k8 3 lx mB)
   (de (ix aar rfl (iq (pv 0)) (iK (i:=4) lx.nd rfl (Or.inr rfl)) (de (jB (by exact iZ hr) (pv 2) (gK (pv 4) rfl) (pv 4) rfl)
   (f_ (jB (by exact iZ hr) (pv 3) (gK (pv 4) rfl) (gM gD (by rfl) T.jC aav (a_ (zy EE (gr vD).names [7] rfl (iq (pv 0)) rfl (by decide+kernel) (λ_ _ _ _=>(iK (i:=7) lx.nd rfl (Or.inl rfl))) (λ_ _ _ _=>⟨_,qr (jv (ph (by exact iZ hr) (gK (pv 7) rfl) (zJ hr (pv 1) (gK (pv 4) rfl)))),by(try simp only [lH]);rfl⟩) (λ_ _ _ _=>CD (pv 7))) d_)) rfl))))
   (de (k8 5 lx (iQ d_))
   (de (D7 aar (Iq (pv 3) (λ_=>rfl)) (de (k8 6 lx (oM O.Aj Dw hr (a_ (pv 3) d_)))
   (de (h_ (Kh (by exact iZ hr) (pv 3) (pv 6) ⟨rfl,rfl,rfl,rfl⟩))
   (de (h_ (nS aaF aaS aaT kj (pv 5) (a_ (zJ hr (pv 2) (pv 6)) d_)))
   (f_ (ix aar rfl (iq (BC (yN rfl) (by rfl) T.zW ab2 (a_ (pv 3) d_))) (rF 7 lx) (f_ (iC (jv (ph (by exact iZ hr) (pv 6) (zJ hr (pv 1) (pv 7)))) (f_ (jB (by exact iZ hr) (pv 3) (pv 7) (gG wH (zJ hr (pv 3) (pv 7)) gq) rfl)) g_))))))))
   (f_ (gZ (pv 5)))))))),?_⟩
 refine Sh ?_;intro _ _ _ _ _
 intro bn T6 wt Ru
 have s1:gs H (L2.upd (L2.upd H bn (.dT [])) wt (.dT [])):=((gs.refl H).new T6).new Ru
 have QH:H wt=none:=((gs.refl H).new (o:=.dT []) T6).free Ru
 have T8:bn≠wt:=λz=>by rw[z,b_] at Ru;cases Ru
 dsimp only [nE];refine LN ?_;intro _
 let Jv:=λ(i:Nat) (Z:St) (H2:Hp)=>∃(v4:Option V)(kb kw:List (List Key×V)),Z=[rr a,rr h,rr bn,rr wt,v4,none,none,none]/\gs H H2/\H2 bn=some (.dT kb)/\H2 wt=some (.dT kw)/\kb.length<=i/\(∀l∈ls.take i,∃b,iT kb (nk l.nm)=some (.ref b)/\nv A H b l)/\Wait kw (ls.take i) (oC (Ah al) ls)
 refine⟨_,rfl,a,rfl,⟨_,gO.of (s1 _ _ ha)⟩,iV (K:=K) (a:=a) (xs:=as.map V.ref) Jv
  ⟨none,[],[],rfl,s1,by rw[e_ T8];exact b_,b_,WR _,(λl hl=>by rw[aby] at hl;cases hl),⟨rfl,(λl hl=>by rw[aby] at hl;cases hl)⟩⟩ (by rintro _ _ _ _ ⟨_,_,_,_,s3,_⟩;exact gO.of (s3 _ _ ha)) ?_ ?_⟩
 ·rintro i v Z H2 hx ⟨v4,kb,kw,rfl,s3,h1,h2,h3,h4,W⟩
  obtain⟨b,hb,rfl⟩:=j9 hx
  obtain⟨l,hl,dx,vn,vu,vl,g1,⟨t,rfl,g2⟩,g3,g4⟩:=ik pa hb
  have Rv:l∈ls:=WW hl
  have hi:i<ls.length:=(List.getElem?_eq_some_iff.mp hl).1
  have AF:∀x∈ls.take i,x.nm≠l.nm:=λx hx z=>by
   obtain⟨j,hj⟩:=aaG.mp hx
   have Jk:j<i:=by have:=(List.getElem?_eq_some_iff.mp hj).1;rw[aaC] at this;omega
   rw[abN,aan Jk] at hj
   have e1:(ls.map (·.nm))[j]?=some l.nm:=by rw[aam,hj,<-z];rfl
   have e2:(ls.map (·.nm))[i]?=some l.nm:=by rw[aam,hl];rfl
   have:=(abJ (List.getElem?_eq_some_iff.mp e1).1 nd).mp (e1.trans e2.symm)
   omega
  obtain⟨bb,dk,z1,z2,z3⟩:=hh2 l.nm (xA l Rv)
  have XD:=jr kb (nk l.nm) (V.ref b)
  refine⟨_,rfl,_,rfl,_,rfl,b,A.gW,dx,_,_,rfl,s3 _ _ g1,O.iR,O.gT,i6,bn,_,rfl,nN.t (k:=nk l.nm) h1 (s3 _ _ g2) (by omega),?_⟩
  have s4:gs H (L2.upd H2 bn (.dT (putK kb (nk l.nm) (V.ref b)))):=s3.upd T6
  have Nl:L2.upd H2 bn (.dT (putK kb (nk l.nm) (V.ref b))) bn=some (.dT (putK kb (nk l.nm) (V.ref b))):=b_
  have VE:L2.upd H2 bn (.dT (putK kb (nk l.nm) (V.ref b))) wt=some (.dT kw):=by rw[e_ T8.symm];exact h2
  generalize L2.upd H2 bn (.dT (putK kb (nk l.nm) (V.ref b)))=H3 at s4 Nl VE ⊢
  refine⟨_,rfl,a,rfl,⟨_,gO.of (s4 _ _ ha)⟩,kR (K:=K) (a:=a) (xs:=as.map V.ref) (by rw[Ob,hlen];omega) (λj ys Z H4=>∃v7:Option V,Z=[rr a,rr h,rr bn,rr wt,rr b,none,none,v7]/\H4=H3/\ys.length=oC (Ah al) (ls.take j) l)
   ⟨none,rfl,rfl,rfl⟩ (by rintro _ _ _ _ _ ⟨_,_,e,e2⟩;subst e;exact⟨gO.of (s4 _ _ ha),by rw[e2];unfold oC;exact aai (aaN _ _) (by rw[aaC];omega)⟩) ?_ ?_⟩
  ·rintro j v ys Z H4 hx ⟨v7,rfl,rfl,e2⟩
   obtain⟨b2,QI,rfl⟩:=j9 hx
   obtain⟨l2,HH,dx2,vn2,vu2,vl2,k1,⟨t2,rfl,k2⟩,k3,k4⟩:=ik pa QI
   refine⟨_,rfl,b2,A.gW,dx2,_,_,rfl,s4 _ _ k1,O.iR,O.gT,i6,_,rfl,_,rfl,b,A.gW,dx,_,_,rfl,s4 _ _ g1,O.iR,O.gT,i6,h,.ref bb,rfl,?_,bb,_,rfl,ja.t (k:=nk l2.nm) (s4 _ _ z2) (s4 _ _ k2),_,rfl,?_⟩
   ·have:=ja.t (k:=nk l.nm) (s4 _ _ LV) (s4 _ _ g2)
    rw[z1] at this
    exact this
   ·unfold oC at e2 ⊢
    rw[take_snoc HH,aaH,XF]
    by_cases hm:Ah al l2.nm l.nm
    ·rw[(z3 l2.nm).mpr hm]
     refine lX ⟨_,rfl,_,rfl,rfl,?_⟩
     rw[ZT (by simpa using hm),aa2,XF,e2];rfl
    ·rw[abG.mpr λz=>hm ((z3 l2.nm).mp z)]
     refine jD ⟨_,rfl,rfl,?_⟩
     rw[aab (by simpa using hm),aa2,e2];rfl
  ·rintro ys Z H4 ⟨v7,rfl,rfl,e2⟩ p hp
   rw[Ob,hlen,aaq] at e2
   have s5:=s4.new (o:=.lst ys) hp
   have N6:=W.len
   rw[aaC] at N6
   refine⟨p,_,rfl,.inl (gO.of b_),_,rfl,_,rfl,b,A.gW,dx,_,_,rfl,s5 _ _ g1,O.iR,O.gT,i6,wt,_,rfl,nN.t (k:=nk l.nm) (iy hp VE) (s5 _ _ g2) (by omega),?_⟩
   refine⟨_,_,_,rfl,s5.upd QH,by rw[e_ T8];exact iy hp Nl,b_,by omega,λx hx=>?_,⟨?_,λx hx=>?_⟩⟩
   ·rw[take_snoc hl] at hx
    rcases ZU.mp hx with hx|hx
    ·obtain⟨c,c1,c2⟩:=h4 x hx
     exact⟨c,by rw[kc,aac (λz=>AF x hx (pA z))];exact c1,c2⟩
    ·rw[WO.mp hx]
     exact⟨b,by rw[kc,aan rfl],dx,_,vu,vl,g1,⟨t,rfl,g2⟩,g3,g4⟩
   ·rw[qi,W.keys,take_snoc hl,aau]
    exact aac λz=>by
     obtain⟨x,hx,e⟩:=aaA.mp z
     exact AF x hx (pA e)
   ·rw[take_snoc hl] at hx
    rw[kc]
    rcases ZU.mp hx with hx|hx
    ·rw[aac (λz=>AF x hx (pA z))];exact W.val x hx
    ·rw[WO.mp hx,aan rfl,e2]
 ·rintro Z H2 ⟨v4,kb,kw,rfl,s3,h1,h2,h3,h4,W⟩
  have el:(as.map V.ref).length=ls.length:=by rw[Ob];exact hlen
  rw[el,aaq] at h4 W
  refine⟨L2.jS,λr rG=>?_⟩
  have hrH:H r=none:=s3.free rG
  have hrb:bn≠r:=gv h1 rG
  have T9:wt≠r:=gv h2 rG
  obtain⟨rk,Qz⟩:=tpl
  refine⟨λm Z H3=>∃(v6 v7:Option V)(kw:List (List Key×V))(rem row:List Ln)(rs:List Addr),m=rem.length/\Z=[rr a,rr h,rr bn,rr wt,v4,rr r,v6,v7]/\gs H H3/\H3 bn=some (.dT kb)/\H3 wt=some (.dT kw)/\H3 r=some (.lst (rs.map V.ref))/\Paired (nv A H) rs row/\Wait kw rem (oC (Ah al) rem)/\rem.Sublist ls/\row.length+rem.length=ls.length/\row++rf (Ah al) rem.length rem=rowOf (Ah al) ls,
   ⟨ls.length,none,none,kw,ls,[],[],rfl,rfl,s3.new rG,iy rG h1,iy rG h2,b_,.nil,W,aaD _,by simp,rfl⟩,?_⟩
  rintro m Z H3 ⟨v6,v7,kw,rem,row,rs,rfl,rfl,s4,b1,w1,r1,pr,W,sub,hsum,Bs⟩
  have VF:(rem.map (·.nm)).Nodup:=(sub.map _).nodup nd
  refine⟨_,rfl,wt,kw,rfl,w1,?_⟩
  have N6:=W.len
  cases rem with
  | nil=>
   have:kw=[]:=aaK.mp N6
   subst this
   refine jD ⟨_,rfl,q r _ s4 hrH ⟨rs,r1,?_⟩⟩
   rw[show rf (Ah al) ([]:List Ln).length []=[] from rfl,aaM] at Bs
   rw[<-Bs]
   exact Paired.jh pr λ_ _ z=>z.same s4
  | cons x0 X0=>
   generalize X8:x0::X0=rem at *
   have qo:rem≠[]:=by rw[<-X8];exact λz=>by cases z
   obtain⟨l,Lw⟩:=rP (lt:=Ah al) Qz rem qo
   have Ny:l∈rem:=List.mem_of_find?_eq_some Lw
   have X_:l∈ls:=sub.subset Ny
   have Of:=l9 VF Ny
   refine J2 (by cases kw with|nil=>exact absurd (aaK.mp N6.symm) qo|cons _ _=>rfl) ?_
   refine⟨λZ H4=>∃(v6 v7:Option V)(kw:List (List Key×V))(lZ row:List Ln)(rs:List Addr),lZ.length<rem.length/\Z=[rr a,rr h,rr bn,rr wt,v4,rr r,v6,v7]/\gs H H4/\H4 bn=some (.dT kb)/\H4 wt=some (.dT kw)/\H4 r=some (.lst (rs.map V.ref))/\Paired (nv A H) rs row/\Wait kw lZ (oC (Ah al) lZ)/\lZ.Sublist ls/\row.length+lZ.length=ls.length/\row++rf (Ah al) lZ.length lZ=rowOf (Ah al) ls,
    λZ' H' ⟨u6,u7,T_,lZ,Ya,rs2,jT,z⟩=>⟨lZ.length,jT,u6,u7,T_,lZ,Ya,rs2,rfl,z⟩,?_⟩
   refine⟨_,rfl,wt,kw,rem,oC (Ah al) rem,l,rfl,w1,W,VF,by rw[KI];exact Lw,λt ht=>?_⟩
   have Du:=W.val l Ny
   refine⟨_,rfl,wt,rfl,.inr ⟨_,.inl w1⟩,_,rfl,t,kw,nk l.nm,_,rfl,w1,ht,Du,?_⟩
   have s5:gs H (L2.upd H3 wt (.dT (jZ kw (nk l.nm)))):=s4.upd QH
   have b2:L2.upd H3 wt (.dT (jZ kw (nk l.nm))) bn=some (.dT kb):=by rw[e_ T8];exact b1
   have r2:L2.upd H3 wt (.dT (jZ kw (nk l.nm))) r=some (.lst (rs.map V.ref)):=by rw[e_ T9.symm];exact r1
   have t2:L2.upd H3 wt (.dT (jZ kw (nk l.nm))) t=some (nT l.nm):=by rw[e_ (i9 ht w1 (λz=>by cases z))];exact ht
   have w2:L2.upd H3 wt (.dT (jZ kw (nk l.nm))) wt=some (.dT (jZ kw (nk l.nm))):=b_
   have W2:Wait (jZ kw (nk l.nm)) (rem.filter λo=>o.nm≠l.nm) (oC (Ah al) rem):=⟨IE W.keys,λo ho=>by
    have pI:=aal.mp ho
    rw[KH _ _ _ (λz=>by have:=pA z;simpa[this] using pI.2)]
    exact W.val o pI.1⟩
   generalize L2.upd H3 wt (.dT (jZ kw (nk l.nm)))=H4 at s5 b2 r2 t2 w2 ⊢
   generalize jZ kw (nk l.nm)=T_ at w2 W2
   obtain⟨bl,N_,hLn⟩:=h4 l X_
   have Yb:=aak pr
   refine⟨_,rfl,.inl ⟨rfl,_,gO.of r2⟩,_,rfl,_,rfl,bn,.ref bl,rfl,?_,r,_,_,rfl,rfl,r2,by rw[Ob,Yb];omega,?_⟩
   ·have:=ja.t (k:=nk l.nm) b2 t2
    rw[N_] at this
    exact this
   have s6:gs H (L2.upd H4 r (.lst (rs.map V.ref++[V.ref bl]))):=s5.upd hrH
   have b3:L2.upd H4 r (.lst (rs.map V.ref++[V.ref bl])) bn=some (.dT kb):=by rw[e_ hrb];exact b2
   have w3:L2.upd H4 r (.lst (rs.map V.ref++[V.ref bl])) wt=some (.dT T_):=by rw[e_ T9];exact w2
   have t3:L2.upd H4 r (.lst (rs.map V.ref++[V.ref bl])) t=some (nT l.nm):=by rw[e_ (i9 t2 r2 (λz=>by cases z))];exact t2
   have r3:L2.upd H4 r (.lst (rs.map V.ref++[V.ref bl])) r=some (.lst ((rs++[bl]).map V.ref)):=by rw[b_,aau];rfl
   generalize L2.upd H4 r (.lst (rs.map V.ref++[V.ref bl]))=H5 at s6 b3 w3 t3 r3 ⊢
   have HK:(rem.filter λo=>o.nm≠l.nm).Sublist rem:=aaV
   generalize hR:(rem.filter λo=>decide (o.nm≠l.nm))=lZ at W2 HK Of
   have Ua:(lZ.map (·.nm)).Nodup:=(HK.map _).nodup VF
   refine⟨_,rfl,wt,T_,rfl,w3,λp bs hp pbs=>?_⟩
   have s7:=s6.new (o:=.lst (bs.map V.ref)) hp
   have Yc:=aak pbs
   have T4:=W2.len
   let Jv:=λ(j:Nat) (Z:St) (H6:Hp)=>∃(v7:Option V)(Lx:List (List Key×V)),Z=[rr a,rr h,rr bn,rr wt,v4,rr r,rr t,v7]/\gs H H6/\H6 bn=some (.dT kb)/\H6 wt=some (.dT Lx)/\H6 t=some (nT l.nm)/\H6 r=some (.lst ((rs++[bl]).map V.ref))/\H6 p=some (.lst (bs.map V.ref))/\(∀b∈bs,∀xs,H5 b=some (.tup xs)->H6 b=some (.tup xs))/\Lx.map (·.1)=lZ.map (λl=>nk l.nm)/\∀(i:Nat)(o:Ln),lZ[i]?=some o->iT Lx (nk o.nm)=some (.int ((if i<j then oC (Ah al) lZ o else oC (Ah al) rem o:Nat):Int))
   refine⟨p,rfl,⟨_,gO.of b_⟩,iV (K:=K) (a:=p) (xs:=bs.map V.ref) Jv
    ⟨v7,T_,rfl,s7,iy hp b3,iy hp w3,iy hp t3,iy hp r3,b_,λb _ xs e=>iy hp e,W2.keys,λi o ho=>by rw[aac (by omega)];exact W2.val o (WW ho)⟩ (by rintro _ _ _ _ ⟨_,_,_,_,_,_,_,_,e,_⟩;exact gO.of e) ?_ ?_⟩
   ·rintro j v Z H6 hx ⟨v7,Lx,rfl,s8,b4,w4,t4,r4,p4,Nz,Cd,Ly⟩
    obtain⟨c,hc,rfl⟩:=j9 hx
    obtain⟨⟨k,v⟩,hkv,Yd⟩:=iY pbs hc
    obtain⟨o,ho,rfl,rfl⟩:=W2.get Ua hkv
    have QJ:o∈rem:=HK.subset (WW ho)
    have Ye:H6 c=some (nT o.nm):=Nz c (WW hc) _ Yd
    obtain⟨bb,dk,z1,z2,z3⟩:=hh2 o.nm (xA o (sub.subset QJ))
    have Cb:=KJ (lt:=Ah al) VF Ny o
    have upv:∀(Ub:List (List Key×V)),Ub.map (·.1)=lZ.map (λl=>nk l.nm)->(∀x∈lZ,x.nm≠o.nm->iT Ub (nk x.nm)=iT Lx (nk x.nm))->iT Ub (nk o.nm)=some (.int ((oC (Ah al) lZ o:Nat):Int))->∀(i:Nat)(x:Ln),lZ[i]?=some x->iT Ub (nk x.nm)=some (.int ((if i<j+1 then oC (Ah al) lZ x else oC (Ah al) rem x:Nat):Int)):=λUb _ h1 h2 i x Uc=>by
     by_cases e:i=j
     ·subst e
      rw[ho] at Uc
      cases Uc
      rw[aan (acf _)]
      exact h2
     ·have Rw:x.nm≠o.nm:=λz=>by
       have e1:(lZ.map (·.nm))[i]?=some o.nm:=by rw[aam,Uc,<-z];rfl
       have e2:(lZ.map (·.nm))[j]?=some o.nm:=by rw[aam,ho];rfl
       exact e ((abJ (List.getElem?_eq_some_iff.mp e1).1 Ua).mp (e1.trans e2.symm))
      rw[h1 x (WW Uc) Rw,Ly i x Uc]
      by_cases Dt:i<j
      ·rw[aan Dt,aan (by omega)]
      ·rw[aac Dt,aac (by omega)]
    rw[hR] at Cb
    refine⟨_,rfl,_,rfl,_,rfl,h,.ref bb,rfl,?_,bb,_,rfl,ja.t (k:=nk l.nm) (s8 _ _ z2) t4,_,rfl,?_⟩
    ·have:=ja.t (k:=nk o.nm) (s8 _ _ LV) Ye
     rw[z1] at this
     exact this
    by_cases hm:Ah al l.nm o.nm
    ·rw[(z3 l.nm).mpr hm]
     rw[aan hm] at Cb
     refine lX ?_
     have Ud:=Ly j o ho
     rw[aac (abi _)] at Ud
     have hg:ja H6 wt (.ref c) (some (.int ((oC (Ah al) rem o:Nat):Int))):=by
      have:=ja.t (k:=nk o.nm) w4 Ye
      rw[Ud] at this
      exact this
     have hk3:Lx.length=lZ.length:=by have:=aaQ List.length Cd;rwa [Ob,Ob] at this
     refine⟨_,rfl,_,rfl,wt,_,rfl,hg,_,_,rfl,rfl,_,rfl,_,rfl,wt,_,rfl,nN.t (k:=nk o.nm) w4 Ye (by omega),?_⟩
     have kk:(putK Lx (nk o.nm) (V.int ((oC (Ah al) rem o:Nat)-1))).map (·.1)=lZ.map (λl=>nk l.nm):=by
      rw[qi,Cd]
      exact aan (aaA.mpr ⟨o,WW ho,rfl⟩)
     refine⟨_,_,rfl,s8.upd QH,by rw[e_ T8];exact b4,b_,by rw[e_ (i9 t4 w4 (λz=>by cases z))];exact t4,by rw[e_ T9.symm];exact r4,by rw[e_ (i9 p4 w4 (λz=>by cases z))];exact p4,λb hb xs e=>?_,kk,upv _ kk (λx _ Rw=>?_) ?_⟩
     ·have:=Nz b hb xs e
      rw[e_ (i9 this w4 (λz=>by cases z))];exact this
     ·rw[kc,aac (λz=>Rw (pA z))]
     ·rw[kc,aan rfl]
      have e9:((oC (Ah al) rem o:Nat):Int)-1=((oC (Ah al) lZ o:Nat):Int):=by omega
      exact aaQ (λz=>some (V.int z)) e9
    ·rw[abG.mpr λz=>hm ((z3 l.nm).mp z)]
     rw[aac hm] at Cb
     refine jD ⟨_,Lx,rfl,s8,b4,w4,t4,r4,p4,Nz,Cd,upv Lx Cd (λx _ _=>rfl) ?_⟩
     have Ud:=Ly j o ho
     rw[aac (abi _)] at Ud
     rw[Ud,Cb,Nat.add_zero]
   ·rintro Z H6 ⟨v7,Lx,rfl,s8,b4,w4,t4,r4,p4,Nz,Cd,Ly⟩
    have hlen2:(bs.map V.ref).length=lZ.length:=by rw[Ob,<-Yc,T4]
    refine⟨_,_,Lx,lZ,row++[l],rs++[bl],by omega,rfl,s8,b4,w4,r4,iz pr hLn,⟨Cd,λo ho=>?_⟩,HK.trans sub,by rw[XF];show row.length+1+lZ.length=_;omega,?_⟩
    ·obtain⟨i,hi⟩:=aaG.mp ho
     have Rm:=(List.getElem?_eq_some_iff.mp hi).1
     rw[Ly i o hi,aan (by omega)]
    ·rw[<-Bs,<-Of,KL Lw,aaO,hR]
     rfl
end
end PK
namespace Kp
open PySem L2
noncomputable abbrev Vc:Stmt:=PK.pq
noncomputable abbrev Vd:Stmt:=PK.qB
noncomputable abbrev W0:Stmt:=PK.qC
noncomputable abbrev NV:Stmt:=PK.Ge
structure Txt(mg:Qqx):Prop where
 len:mg "len"=none
 range:mg "range"=none
 max:mg "max"=none
abbrev gw(l:List Str):List V:=l.map V.str
noncomputable def tab(old new:List Str)(i:Nat):List V:=(List.range (new.length+1)).map λj=>V.int (K01.wY old new i j)
theorem C7{old new:List Str}{i j:Nat}(h:j<=new.length):(tab old new i)[j]?=some (V.int (K01.wY old new i j)):=by
 unfold tab
 rw[aam,abZ (by omega)]
 rfl
noncomputable def part(old new:List Str)(i k:Nat):List V:=(List.range (new.length+1)).map λj=>if new.length-k<=j then V.int (K01.wY old new i j) else V.int 0
theorem Hi{old new:List Str}{i k j:Nat}(h:j<=new.length)(hk:new.length-k<=j):(part old new i k)[j]?=some (V.int (K01.wY old new i j)):=by
 unfold part
 rw[aam,abZ (by omega)]
 show some (if _ then _ else _)=_
 rw[aan hk]
theorem Aq(old new:List Str)(i k:Nat):(part old new i k).length=new.length+1:=by unfold part;rw[Ob,abH]
theorem KN(old new:List Str)(i:Nat):part old new i new.length=tab old new i:=by
 unfold part tab
 refine abY λj _=>?_
 rw[aan (by omega)]
theorem B1(old new:List Str)(i n:Nat)(h:n=new.length+1):(List.replicate n [V.int 0]).flatten=part old new i 0:=by
 subst h
 refine List.ext_getElem? λj=>?_
 unfold part
 rw[aam]
 have e:(List.replicate (new.length+1) [V.int 0]).flatten=List.replicate (new.length+1) (V.int 0):=by
  generalize new.length+1=m
  induction m with
  | zero=>rfl
  | succ m ih=>rw[aa6,abT,ih,aa6];rfl
 rw[e,List.getElem?_replicate]
 by_cases hj:j<new.length+1
 ·rw[aan hj,abZ hj]
  show some _=some (if _ then _ else _)
  by_cases h2:new.length-0<=j
  ·rw[aan h2,K01.y9 (.inr (by omega))];rfl
  ·rw[aac h2]
 ·rw[aac hj,List.getElem?_eq_none_iff.mpr (by rw[abH];omega)]
  rfl
theorem E6{old new:List Str}{i k:Nat}(h:k<new.length):(part old new i k).set (new.length-1-k) (V.int (K01.wY old new i (new.length-1-k)))=part old new i (k+1):=by
 refine List.ext_getElem? λj=>?_
 by_cases e:j=new.length-1-k
 ·subst e
  rw[abd (by rw[Aq];omega),Hi (by omega) (by omega)]
 ·rw[abn (λz=>e z.symm)]
  unfold part
  rw[aam,aam]
  by_cases hj:j<new.length+1
  ·rw[abZ hj]
   show some (if _ then _ else _)=some (if _ then _ else _)
   by_cases h2:new.length-k<=j
   ·rw[aan h2,aan (by omega)]
   ·rw[aac h2,aac (by omega)]
  ·rw[List.getElem?_eq_none_iff.mpr (by rw[abH];omega)]
   rfl
theorem mw{l:List Str}{j:Nat}{x:Str}(h:l[j]?=some x):(gw l)[j]?=some (V.str x):=by rw[aam,h];rfl
section
variable{P:Program}{w:World}{K:Qqy}{mg:Qqx}{base:Heap}
theorem Pw:gH ["text","new","below","counts","second"] ["text","new","below"] (gr Vc):=⟨rfl,rfl,rfl,by decide+kernel,rfl,by decide+kernel,by decide+kernel⟩
def SA:Sp:=λvs H Q _=>∃(old new:List Str)(i:Nat)(t:Str)(n b:Addr),vs=[.str t,.ref n,.ref b]/\old[i]?=some t/\H n=some (.lst (gw new))/\H b=some (.lst (tab old new (i+1)))/\new.length<=1000/\
 ∀p H',gs H H'->H p=none->H' p=some (.lst (tab old new i))->Q (.ref p) H'
theorem SD{f:Addr}{fd:FuncData}(F:xR K "counts_with" "counts_with" Vc f fd)(T:Txt mg):il P w K mg base mD 1 f fd ["text","new","below"] SA:=by
 refine F.q_ Pw λjt A outer s H vs Q E hr h=>?_
 obtain⟨old,new,i,t,n,b,rfl,ht,hn,hb,hl,k⟩:=h
 refine⟨_,de (mS (i:=3) Pw.nd rfl (Or.inl rfl) (gG FN (iQ (a_ gq d_)) (gG iG (gM gD (by rfl) T.len aav (a_ (pv 1) d_)) gq)))
  (de (ix aar rfl (wQ rfl T.range (a_ (gG wH (gM gD (by rfl) T.len aav (a_ (pv 1) d_)) gq) (a_ (xM rL gq) (a_ (xM rL gq) d_)))) (iK (i:=4) Pw.nd rfl (Or.inl rfl))
   (f_ (iC (ij nF (jH kQ (pv 1) (pv 4) (λ_ _=>rfl)) (pv 0) (iP _))
    (f_ (Ck (gG iG (jH kQ (pv 2) (gG iG (pv 4) gq) (λ_ _=>rfl)) gq) (Cj (pv 3) (pv 4) set_list)))
    (f_ (Ck (gM (HV rfl) (by rfl) T.max PyProof.Rows.boot_max (a_ (jH kQ (pv 2) (pv 4) (λ_ _=>rfl)) (a_ (jH kQ (pv 3) (gG iG (pv 4) gq) (λ_ _=>rfl)) d_))) (Cj (pv 3) (pv 4) set_list))))))
  (f_ (gZ (pv 3)))),?_⟩
 refine Ep ?_;intro _ _
 refine⟨jS,λl LS=>?_⟩
 have QK:(upd H l (.lst [V.int 0])) n=some (.lst (gw new)):=by rw[e_ (gv hn LS)];exact hn
 refine⟨_,rfl,n,_,rfl,.inl (gO.of QK),_,_,rfl,rfl,l,_,_,rfl,rfl,b_,by simp<;>omega,by simp<;>omega,by simp;have:sizeLine=2 ^ 24:=rfl;omega,λp hp=>?_⟩
 have qU:p≠l:=λz=>by rw[z,b_] at hp;cases hp
 have GF:H p=none:=by rw[e_ qU] at hp;exact hp
 have s0:gs H (upd H l (.lst [V.int 0])):=(gs.refl H).upd LS
 have e0:(List.replicate (((gw new).length:Int)+1).toNat [V.int 0]).flatten=part old new i 0:=B1 old new i _ (by simp<;>omega)
 rw[e0]
 have s1:gs H (upd (upd H l (.lst [V.int 0])) p (.lst (part old new i 0))):=s0.upd GF
 refine⟨_,rfl,n,_,rfl,.inl (gO.of (s1 n _ hn)),_,_,rfl,rfl,_,rfl,_,rfl,_,_,rfl,⟨by simp<;>omega,by simp<;>omega,by omega,by omega⟩,?_⟩
 have en:((((gw new).length:Int)-1) - -1).toNat=new.length:=by simp<;>omega
 rw[en]
 let Jv:=λ(m:Nat) (Z:St) (H2:Hp)=>∃v,Z=[rs t,rr n,rr b,rr p,v]/\gs H H2/\H2 p=some (.lst (part old new i m))
 refine uA Jv ⟨none,rfl,s1,b_⟩ ?_ ?_
 ·rintro m Z H2 hm ⟨v,rfl,s2,h2⟩
  obtain⟨j,hj⟩:∃j,j=new.length-1-m:=⟨_,rfl⟩
  have hjl:j<new.length:=by omega
  rw[show((gw new).length:Int)-1+(m:Int) * -1=(j:Int) by simp<;>omega]
  have QL:new[j]?=some new[j]:=TH hjl
  have B:=K01.MA ht QL
  refine⟨_,rfl,_,rfl,n,_,_,_,rfl,rfl,gO.of (s2 n _ hn),gJ rfl (mw QL),_,rfl,rfl,_,rfl,?_⟩
  refine kF (λhc=>?_) (λhc=>?_)
  ·have hc:new[j]=t:=by have:=aah hc;injection this
   rw[aan hc] at B
   refine⟨_,rfl,_,rfl,_,_,rfl,rfl,b,_,_,_,rfl,rfl,gO.of (s2 b _ hb),gJ (j:=j+1) (by omega) (C7 (by omega)),_,_,rfl,rfl,_,rfl,_,rfl,p,_,_,j,rfl,rfl,h2,CC rfl (by rw[Aq];omega),?_⟩
   refine⟨_,rfl,s2.upd GF,?_⟩
   rw[b_]
   have e:((K01.wY old new (i+1) (j+1):Nat):Int)+1=((K01.wY old new i j:Nat):Int):=by omega
   rw[e,hj,E6 hm]
  ·have hc:¬new[j]=t:=λz=>hc (by rw[z];exact WV rfl)
   rw[aac hc] at B
   refine⟨_,rfl,_,rfl,b,_,_,_,rfl,rfl,gO.of (s2 b _ hb),gJ rfl (C7 (by omega)),_,rfl,_,rfl,_,_,rfl,rfl,p,_,_,_,rfl,rfl,gO.of h2,gJ (j:=j+1) (by omega) (Hi (by omega) (by omega)),_,_,rfl,_,rfl,_,rfl,p,_,_,j,rfl,rfl,h2,CC rfl (by rw[Aq];omega),?_⟩
   refine⟨_,rfl,s2.upd GF,?_⟩
   rw[b_]
   have e:(if((K01.wY old new i (j+1):Nat):Int)>((K01.wY old new (i+1) j:Nat):Int) then((K01.wY old new i (j+1):Nat):Int) else((K01.wY old new (i+1) j:Nat):Int))=((K01.wY old new i j:Nat):Int):=by split<;>omega
   rw[e,hj,E6 hm]
 ·rintro Z H2 ⟨v,rfl,s2,h2⟩
  refine⟨_,rfl,k p H2 s2 GF ?_⟩
  rw[h2,KN]
def NW(H:Hp)(old new:List Str)(rows:List V)(Ue:Nat):Prop:=rows.length=old.length+1/\∀i,i<=old.length->∃a,rows[i]?=some (.ref a)/\(Ue<=i->H a=some (.lst (tab old new i)))
abbrev nMP:List Str:=["old","new","table","first","place"]
theorem MQ:gH ["old","new","table","first","place"] ["old","new"] (gr Vd):=⟨rfl,rfl,rfl,by decide+kernel,rfl,by decide+kernel,by decide+kernel⟩
def SE:Sp:=λvs H Q _=>∃(old new:List Str)(o n:Addr),vs=[.ref o,.ref n]/\H o=some (.lst (gw old))/\H n=some (.lst (gw new))/\old.length<=1000/\new.length<=1000/\
 ∀p H' rows,gs H H'->H p=none->H' p=some (.lst rows)->NW H' old new rows 0->Q (.ref p) H'
theorem KO(new:List Str)(n:Nat)(h:n=new.length+1):(List.replicate n [V.int 0]).flatten=tab [] new 0:=by
 rw[B1 [] new 0 n h]
 unfold part tab
 refine abY λj _=>?_
 rw[show K01.wY ([]:List Str) new 0 j=0 from K01.y9 (.inl (by simp))]
 split<;>rfl
theorem MR(old new:List Str)(n:Nat)(h:n=new.length+1):(List.replicate n [V.int 0]).flatten=tab old new old.length:=by
 rw[KO new n h]
 unfold tab
 refine abY λj _=>?_
 rw[show K01.wY ([]:List Str) new 0 j=0 from K01.y9 (.inl (by simp)),K01.y9 (.inl (WR _))]
theorem SF{f fC:Addr}{fd Rx:FuncData}(F:xR K "most_pairs" "most_pairs" Vd f fd)(T:Txt mg)(C:xR K "counts_with" "counts_with" Vc fC Rx)(bC:Binds K Rx ["text","new","below"] [])(mC:mg "counts_with"=some (.ref fC)) :
  il P w K mg base mD 2 f fd ["old","new"] SE:=by
 have GC:il P w K mg base mD 1 fC Rx ["text","new","below"] SA:=SD C T
 refine F.q_ MQ λjt A outer s H vs Q E hr h=>?_
 obtain⟨old,new,o,n,rfl,ho,hn,N7,wz,k⟩:=h
 refine⟨_,de (En (j:=2) nMP (gr Vd).names [4] MQ.nd rfl rfl rfl (jE rfl T.range (a_ (gG iG (gM gD (by rfl) T.len aav (a_ (pv 0) d_)) gq) d_)) rfl (by decide+kernel)
   (λ_ _ _ _=>iK (i:=4) MQ.nd rfl (Or.inl rfl)) (λ_ _ _ _=>nV) (λ_ _ _ _=>⟨_,gG FN (iQ (a_ gq d_)) (gG iG (gM gD (by rfl) T.len aav (a_ (pv 1) d_)) gq),by(try simp only [lH]);rfl⟩))
  (de (ix aar rfl (wQ rfl T.range (a_ (gG wH (gM gD (by rfl) T.len aav (a_ (pv 0) d_)) gq) (a_ (xM rL gq) (a_ (xM rL gq) d_)))) (iK (i:=3) MQ.nd rfl (Or.inl rfl))
   (f_ (Ck (vj GC hr rfl mC C.kp bC .nil pR (a_ (jH kQ (pv 0) (pv 3) (λ_ _=>rfl)) (a_ (pv 1) (a_ (jH kQ (pv 2) (gG iG (pv 3) gq) (λ_ _=>rfl)) d_)))) (Cj (pv 2) (pv 3) set_list))))
  (f_ (gZ (pv 2)))),?_⟩
 refine Ep ?_;intro _ _
 refine⟨_,rfl,o,_,rfl,.inl (gO.of ho),_,_,rfl,rfl,_,rfl,by simp<;>omega,by simp<;>omega,?_⟩
 have en:(((gw old).length:Int)+1).toNat=old.length+1:=by simp<;>omega
 rw[en]
 let Jv:=λ(m:Nat) (ys:List V) (Z:St) (H2:Hp)=>∃v,Z=[rr o,rr n,none,none,v]/\gs H H2/\ys.length=m/\∀i,i<m->∃a,ys[i]?=some (.ref a)/\H a=none/\H2 a=some (.lst (tab old new old.length))
 refine vw (by have:sizeLine=2 ^ 24:=rfl;omega) Jv
  ⟨none,rfl,gs.refl H,rfl,λi hi=>absurd hi (Nat.not_lt_zero _)⟩ (by rintro _ _ _ _ ⟨_,_,_,e,_⟩;exact Nat.le_of_eq e) ?_ ?_
 ·rintro m ys Z H2 hm ⟨v,rfl,s2,hy,Ce⟩
  refine⟨jS,λl LS=>?_⟩
  have s3:gs H (upd H2 l (.lst [V.int 0])):=s2.new LS
  refine⟨_,rfl,n,_,rfl,.inl (gO.of (s3 n _ hn)),_,_,rfl,rfl,l,_,_,rfl,rfl,b_,by simp<;>omega,by simp<;>omega,by simp;have:sizeLine=2 ^ 24:=rfl;omega,λp hp=>?_⟩
  rw[MR old new _ (show(((gw new).length:Int)+1).toNat=new.length+1 by simp<;>omega)]
  have qU:p≠l:=λz=>by rw[z,b_] at hp;cases hp
  have A2:H2 p=none:=by rw[e_ qU] at hp;exact hp
  refine⟨_,rfl,s3.new hp,by rw[XF,hy];rfl,λi hi=>?_⟩
  by_cases e:i<m
  ·obtain⟨a,e1,e2,e3⟩:=Ce i e
   refine⟨a,by rw[abP (by omega)];exact e1,e2,?_⟩
   rw[e_ (gv e3 A2),e_ (gv e3 LS)]
   exact e3
  ·have:i=m:=by omega
   subst this
   exact⟨p,by rw[aba (by omega),hy];simp,s2.free A2,b_⟩
 ·rintro ys Z H2 ⟨v,rfl,s2,hy,Ce⟩ p hp
  have s3:gs H (upd H2 p (.lst ys)):=s2.new hp
  have GF:H p=none:=s2.free hp
  refine⟨_,rfl,o,_,rfl,.inl (gO.of (s3 o _ ho)),_,_,rfl,rfl,_,rfl,_,rfl,_,_,rfl,⟨by simp<;>omega,by simp<;>omega,by omega,by omega⟩,?_⟩
  have en:((((gw old).length:Int)-1) - -1).toNat=old.length:=by simp<;>omega
  rw[en]
  let Jv:=λ(m:Nat) (Z:St) (H3:Hp)=>∃v w rows,Z=[rr o,rr n,rr p,v,w]/\gs H H3/\H3 p=some (.lst rows)/\NW H3 old new rows (old.length-m)/\∀i a,i<=old.length->rows[i]?=some (.ref a)->a≠p
  refine uA Jv
   ⟨_,_,ys,rfl,s3,b_,⟨hy,λi hi=>?_⟩,λi a hi ha=>?_⟩ ?_ ?_
  ·obtain⟨a,e1,e2,e3⟩:=Ce i (by omega)
   refine⟨a,e1,λz=>?_⟩
   have:i=old.length:=by omega
   subst this
   rw[e_ (gv e3 hp)]
   exact e3
  ·obtain⟨a',e1,e2,e3⟩:=Ce i (by omega)
   rw[ha] at e1
   cases e1
   exact gv e3 hp
  ·rintro m Z H3 hm ⟨v,w',rows,rfl,s4,h4,tb,nb⟩
   obtain⟨i,hi⟩:∃i,i=old.length-1-m:=⟨_,rfl⟩
   have Rm:i<old.length:=by omega
   rw[show((gw old).length:Int)-1+(m:Int) * -1=(i:Int) by simp<;>omega]
   have Vv:old[i]?=some old[i]:=TH Rm
   obtain⟨b,e1,e2⟩:=tb.2 (i+1) (by omega)
   refine⟨_,rfl,_,rfl,o,_,_,_,rfl,rfl,gO.of (s4 o _ ho),gJ rfl (mw Vv),_,rfl,_,rfl,_,rfl,_,_,rfl,rfl,p,_,_,_,rfl,rfl,gO.of h4,gJ (j:=i+1) (by omega) e1,?_⟩
   refine⟨old,new,i,_,n,b,rfl,Vv,s4 n _ hn,e2 (by omega),wz,λq H5 s5 hq5 h5=>?_⟩
   have hqp:q≠p:=λz=>by rw[z,h4] at hq5;cases hq5
   refine⟨_,rfl,_,rfl,p,rows,_,i,rfl,rfl,s5 p _ h4,CC rfl (by rw[tb.1];omega),?_⟩
   refine⟨_,_,_,rfl,(s4.trans s5).upd GF,b_,⟨by rw[acn];exact tb.1,λi' Br=>?_⟩,λi' a Br ha=>?_⟩
   ·by_cases e:i'=i
    ·subst e
     refine⟨q,by rw[abd (by rw[tb.1];omega)],λ_=>?_⟩
     rw[e_ hqp];exact h5
    ·obtain⟨a,a1,a2⟩:=tb.2 i' Br
     refine⟨a,by rw[abn (λz=>e z.symm)];exact a1,λz=>?_⟩
     rw[e_ (nb i' a Br a1)]
     exact s5 a _ (a2 (by omega))
   ·by_cases e:i'=i
    ·subst e
     rw[abd (by rw[tb.1];omega)] at ha
     cases ha
     exact hqp
    ·rw[abn (λz=>e z.symm)] at ha
     exact nb i' a Br ha
  ·rintro Z H3 ⟨v,w',rows,rfl,s4,h4,tb,nb⟩
   refine⟨_,rfl,k p H3 rows s4 GF h4 ?_⟩
   rw[Nat.sub_self] at tb
   exact tb
end
end Kp
namespace K01
theorem C8{Z:Type}[DecidableEq Z]{a:Z}{new:List Z}{j k:Nat}(hj:j<=k)(hk:new[k]?=some a)(hm:∀l,j<=l->l<k->new[l]?≠some a):jb a new j=some k:=by
 cases e:jb a new j with
 | none=>exact absurd hk (n1 e k hj)
 | some k'=>
  obtain⟨h1,h2,h3⟩:=kJ e
  rcases Nat.lt_trichotomy k k' with h|h|h
  ·exact absurd hk (h3 k hj h)
  ·rw[h]
  ·exact absurd h2 (hm k' h1 h)
theorem C9{Z:Type}[DecidableEq Z]{a:Z}{new:List Z}{j:Nat}(hm:∀l,j<=l->l<new.length->new[l]?≠some a):jb a new j=none:=by
 cases e:jb a new j with
 | none=>rfl
 | some k'=>
  obtain⟨h1,h2,h3⟩:=kJ e
  exact absurd h2 (hm k' h1 (List.getElem?_eq_some_iff.mp h2).1)
end K01
namespace Kp
open PySem L2
section
variable{P:Program}{w:World}{K:Qqy}{mg:Qqx}{base:Heap}
def W3:Option Nat->V
 | none=>.jg
 | some k=>.int k
theorem SG:gH ["texts","text","start","place"] ["texts","text","start"] (gr W0):=⟨rfl,rfl,rfl,by decide+kernel,rfl,by decide+kernel,by decide+kernel⟩
def SH:Sp:=λvs H Q _=>∃(new:List Str)(t:Str)(n:Addr)(j:Nat),vs=[.ref n,.str t,.int j]/\H n=some (.lst (gw new))/\new.length<=1000/\j<=1000/\Q (W3 (K01.jb t new j)) H
theorem SI{f:Addr}{fd:FuncData}(F:xR K "place_from" "place_from" W0 f fd)(T:Txt mg):il P w K mg base mD 1 f fd ["texts","text","start"] SH:=by
 refine F.q_ SG λjt A outer s H vs Q E hr h=>?_
 obtain⟨new,t,n,j,rfl,hn,hl,hj,k⟩:=h
 refine⟨_,de (ix aar rfl (wG rfl T.range (a_ (pv 2) (a_ (gM gD (by rfl) T.len aav (a_ (pv 0) d_)) d_))) (iK (i:=3) SG.nd rfl (Or.inl rfl))
   (f_ (iC (ij nF (jH kQ (pv 0) (pv 3) (λ_ _=>rfl)) (pv 1) (iP _)) (f_ (gZ (pv 3))) g_)))
  (f_ (gZ uv)),?_⟩
 refine JT ?_;intro _
 refine⟨_,rfl,_,rfl,n,_,rfl,.inl (gO.of hn),_,_,rfl,⟨by omega,by omega,by simp<;>omega,by simp<;>omega⟩,?_⟩
 let Jv:=λ(m:Nat) (Z:St) (H2:Hp)=>∃v,Z=[rr n,rs t,ri j,v]/\H2=H/\∀l,j<=l->l<j+m->new[l]?≠some t
 refine jX Jv ⟨none,rfl,rfl,λl h1 h2=>by omega⟩ ?_ ?_
 ·rintro m Z H2 hm ⟨v,rfl,rfl,h2⟩
  have hm:j+m<new.length:=by simp at hm;omega
  rw[show(j:Int)+(m:Int)=((j+m:Nat):Int) by omega]
  have QL:new[j+m]?=some new[j+m]:=TH hm
  refine⟨_,rfl,_,rfl,n,_,_,_,rfl,rfl,gO.of hn,gJ rfl (mw QL),_,rfl,rfl,_,rfl,?_⟩
  refine kF (λhc=>?_) (λhc=>?_)
  ·have hc:new[j+m]=t:=by have:=aah hc;injection this
   rw[hc] at QL
   rw[K01.C8 (Nat.le_add_right j m) QL h2] at k
   exact⟨_,rfl,k⟩
  ·have hc:¬new[j+m]=t:=λz=>hc (by rw[z];exact WV rfl)
   refine⟨_,rfl,rfl,λl h3 h4=>?_⟩
   by_cases e:l=j+m
   ·subst e
    rw[QL]
    intro z
    exact hc (aaz z)
   ·exact h2 l h3 (by omega)
 ·rintro Z H2 ⟨v,rfl,rfl,h2⟩
  rw[K01.C9 (j:=j) λl h3 h4=>h2 l h3 (by simp<;>omega)] at k
  exact k
def j_(H:Hp)(q:Nat×Nat)(v:V):Prop:=∃a,v=.ref a/\H a=some (.tup [.int q.1,.int q.2])
abbrev iF(H:Hp)(l:List (Nat×Nat))(vs:List V):Prop:=Paired (j_ H) l vs
theorem iF.keep{H H':Hp}{l:List (Nat×Nat)}{vs:List V}(h:iF H l vs)(k:∀a xs,H a=some (.tup xs)->H' a=some (.tup xs)):iF H' l vs:=
 Paired.jh h λq v ⟨a,e,h⟩=>⟨a,e,k a _ h⟩
theorem Px:gH ["old","new","table","pairs","start","first","second"] ["old","new"] (gr NV):=⟨rfl,rfl,rfl,by decide+kernel,rfl,by decide+kernel,by decide+kernel⟩
def Z0:Sp:=λvs H Q _=>∃(old new:List Str)(o n:Addr),vs=[.ref o,.ref n]/\H o=some (.lst (gw old))/\H n=some (.lst (gw new))/\old.length<=1000/\new.length<=1000/\
 ∀p H' ps,gs H H'->H p=none->H' p=some (.lst ps)->iF H' (K01.kept old new) ps->Q (.ref p) H'
theorem MS{f fM fC fP:Addr}{fd Yf Rx Yg:FuncData}(F:xR K "kept" "kept" NV f fd)(T:Txt mg)(C:xR K "counts_with" "counts_with" Vc fC Rx)(bC:Binds K Rx ["text","new","below"] [])(mC:mg "counts_with"=some (.ref fC))
  (M:xR K "most_pairs" "most_pairs" Vd fM Yf) (bM:Binds K Yf ["old","new"] []) (mM:mg "most_pairs"=some (.ref fM)) (Pf:xR K "place_from" "place_from" W0 fP Yg) (bP:Binds K Yg ["texts","text","start"] []) (mP:mg "place_from"=some (.ref fP)) :
  il P w K mg base mD 3 f fd ["old","new"] Z0:=by
 have GM:il P w K mg base mD 2 fM Yf ["old","new"] SE:=SF M T C bC mC
 have GP:il P w K mg base mD 2 fP Yg ["texts","text","start"] SH:=(SI Pf T).mono (by decide)
 refine F.q_ Px λjt A outer s H vs Q E hr h=>?_
 obtain⟨old,new,o,n,rfl,ho,hn,N7,wz,k⟩:=h
 refine⟨_,de (mS (i:=2) Px.nd rfl (Or.inl rfl) (vj GM hr rfl mM M.kp bM .nil pR (a_ (pv 0) (a_ (pv 1) d_))))
  (de (mS (i:=3) Px.nd rfl (Or.inl rfl) (iQ d_))
  (de (mS (i:=4) Px.nd rfl (Or.inl rfl) gq)
  (de (ix aar rfl (jE rfl T.range (a_ (gM gD (by rfl) T.len aav (a_ (pv 0) d_)) d_)) (iK (i:=5) Px.nd rfl (Or.inl rfl))
   (de (mS (i:=6) Px.nd rfl (Or.inl rfl) (vj GP hr rfl mP Pf.kp bP .nil pR (a_ (pv 1) (a_ (jH kQ (pv 0) (pv 5) (λ_ _=>rfl)) (a_ (pv 4) d_)))))
   (f_ (iC (pw_and (jv (tw (pv 6))) (pw_and1 (ij nF
     (gG iG (jH kQ (jH kQ (pv 2) (gG iG (pv 5) gq) (λ_ _=>rfl)) (gG iG (pv 6) gq) (λ_ _=>rfl)) gq)
     (jH kQ (jH kQ (pv 2) (pv 5) (λ_ _=>rfl)) (pv 4) (λ_ _=>rfl)) (iP _)))).pt
    (de (h_ (nS aaF aaS aaT kj (pv 3) (a_ (wK (a_ (pv 5) (a_ (pv 6) d_))) d_)))
    (f_ (mS (i:=4) Px.nd rfl (Or.inl rfl) (gG iG (pv 6) gq))))
    g_))))
  (f_ (gZ (pv 3)))))),?_⟩
 refine Q8 ?_;intro _ _ _ _
 refine⟨_,rfl,_,rfl,old,new,o,n,rfl,ho,hn,N7,wz,λtb H1 rows s1 XY h1 Ug=>?_⟩
 refine⟨jS,λpr VG=>?_⟩
 have Yh:H pr=none:=s1.free VG
 refine⟨_,rfl,o,_,rfl,.inl (gO.of (s1.new VG o _ ho)),_,rfl,by simp<;>omega,by simp<;>omega,?_⟩
 have en:((gw old).length:Int).toNat=old.length:=by simp
 rw[en]
 refine jX (λm Z H2=>∃(j:Nat)(acc:List (Nat×Nat))(ps:List V)(v w:Option V),Z=[rr o,rr n,rr tb,rr pr,ri j,v,w]/\gs H1 H2/\H2 pr=some (.lst ps)/\iF H2 acc ps/\acc.length<=m/\j<=new.length/\
   acc++K01.pS new m (old.drop m) j=K01.kept old new) ⟨0,[],[],none,none,rfl,(gs.refl H1).new VG,b_,.nil,WR _,aaI _,rfl⟩ ?_ ?_
 ·rintro m Z H2 hm ⟨j,acc,ps,v,w',rfl,s2,h2,pa,wx,hj,hk⟩
  rw[show(0:Int)+(m:Int)=(m:Int) by omega]
  have hom:old[m]?=some old[m]:=TH hm
  have hd:old.drop m=old[m]::old.drop (m+1):=aaP hm
  rw[hd,K01.pS] at hk
  refine⟨_,rfl,_,rfl,_,rfl,o,_,_,_,rfl,rfl,gO.of (s2 o _ (s1 o _ ho)),gJ rfl (mw hom),_,rfl,new,_,n,j,rfl,s2 n _ (s1 n _ hn),wz,by omega,?_⟩
  cases e:K01.jb old[m] new j with
  | none=>
   rw[e] at hk
   refine⟨_,rfl,_,rfl,J0 (by rfl) (jD ?_)⟩
   exact⟨j,acc,ps,_,_,rfl,s2,h2,pa,by omega,hj,hk⟩
  | some q=>
   rw[e] at hk
   simp only at hk
   obtain⟨hq1,hq2,Py⟩:=K01.kJ e
   have Og:q<new.length:=(List.getElem?_eq_some_iff.mp hq2).1
   obtain⟨a1,ea1,Yi⟩:=Ug.2 (m+1) (by omega)
   obtain⟨a0,Yj,Yk⟩:=Ug.2 m (by omega)
   have Yi:=s2 a1 _ (Yi (aaI _))
   have Yk:=s2 a0 _ (Yk (aaI _))
   have Uh:H2 tb=some (.lst rows):=s2 tb _ h1
   refine⟨_,rfl,_,rfl,J2 (by rfl) ?_⟩
   refine⟨_,rfl,_,rfl,_,_,rfl,rfl,tb,_,_,_,rfl,rfl,gO.of Uh,gJ (j:=m+1) (by omega) ea1,_,rfl,_,_,rfl,rfl,a1,_,_,_,rfl,rfl,gO.of Yi,gJ (j:=q+1) (by omega) (C7 (by omega)),_,_,rfl,rfl,
    _,rfl,_,rfl,tb,_,_,_,rfl,rfl,gO.of Uh,gJ rfl Yj,_,rfl,a0,_,_,_,rfl,rfl,gO.of Yk,gJ rfl (C7 (by omega)),rfl,_,rfl,?_⟩
   refine kF (λhc=>?_) (λhc=>?_)
   ·have hc:((K01.wY old new (m+1) (q+1):Nat):Int)+1=((K01.wY old new m j:Nat):Int):=by have:=aah hc;injection this
    have Bo:K01.lcs (old.drop (m+1)) (new.drop (q+1))+1=K01.lcs (old[m]::old.drop (m+1)) (new.drop j):=by rw[<-hd];unfold K01.wY at hc;omega
    rw[aan Bo] at hk
    refine⟨_,rfl,.inl ⟨rfl,_,gO.of h2⟩,_,rfl,_,rfl,jS,λt ht=>?_⟩
    have qU:=pa.length
    have ntp:pr≠t:=gv h2 ht
    refine⟨pr,ps,_,rfl,rfl,by rw[e_ ntp];exact h2,by have:sizeLine=2 ^ 24:=rfl;omega,?_⟩
    refine⟨_,rfl,_,_,rfl,rfl,q+1,acc++[(m,q)],ps++[.ref t],_,_,rfl,(s2.new ht).upd VG,b_,?_,by rw[XF];simp;omega,by omega,by rw[aaO];exact hk⟩
    refine Paired.snoc (pa.keep λa xs ha=>?_) ⟨t,rfl,?_⟩
    ·rw[e_ (i9 ha h2 (by intro z;cases z)),e_ (gv ha ht)];exact ha
    ·rw[e_ (abD ntp),b_]
     rfl
   ·have hc:¬((K01.wY old new (m+1) (q+1):Nat):Int)+1=((K01.wY old new m j:Nat):Int):=λz=>hc (WV (aaQ V.int z))
    have Bo:¬K01.lcs (old.drop (m+1)) (new.drop (q+1))+1=K01.lcs (old[m]::old.drop (m+1)) (new.drop j):=by rw[<-hd];unfold K01.wY at hc;omega
    rw[aac Bo] at hk
    exact⟨j,acc,ps,_,_,rfl,s2,h2,pa,by omega,hj,hk⟩
 ·rintro Z H2 ⟨j,acc,ps,v,w',rfl,s2,h2,pa,wx,hj,hk⟩
  rw[aci,K01.pS,aaM] at hk
  rw[hk] at pa
  exact⟨_,rfl,k pr H2 ps (s1.trans s2) Yh h2 pa⟩
end
end Kp
namespace PK
open PySem L2 PM
open Kp (j_ iF)
theorem Pz(a b c d:V):jG "lower_name" d (jG "upper_name" c (jG "text" b (jG "name" a [])))=MM a b c d:=by kernel_rfl
theorem PB(a b c d e:V):jG "other" e (jG "cuts" d (jG "puts" c (jG "file" b (jG "name" a []))))=MN a b c d e:=by kernel_rfl
def Rc(a l:Addr):List (Str×V):=[("ahead",.ref a),("lines",.ref l)]
theorem PD(a l:Addr):jG "lines" (.ref l) (jG "ahead" (.ref a) [])=Rc a l:=by kernel_rfl
theorem lA(a l:Addr):(Rc a l).lookup ("lines":Str)=some (V.ref l):=by kernel_rfl
theorem Gk(a l:Addr):(Rc a l).lookup ("ahead":Str)=some (V.ref a):=by kernel_rfl
theorem PH(a l:Addr):(Rc a l).lookup ("is_ahead":Str)=none:=by kernel_rfl
theorem KP(a l:Addr):(Rc a l).lookup ("quarrelling":Str)=none:=by kernel_rfl
theorem IG(a:Addr):(jG ("ahead":Str) (.ref a) []).lookup ("ahead":Str)=some (V.ref a):=by kernel_rfl
def Gm(A:Ad)(H:Hp)(p:Addr)(al row:List Ln):Prop:=∃dx ah l,H p=some (.ins A.ie dx (Rc ah l))/\C5 H ah al/\qO A H l row
theorem Gm.same{A:Ad}{H H':Hp}{p:Addr}{al row:List Ln}(x:Gm A H p al row)(s:gs H H'):Gm A H' p al row:=by
 obtain⟨dx,ah,l,h1,h2,h3⟩:=x
 exact⟨dx,ah,l,s _ _ h1,h2.same s,h3.same s⟩
section
variable{P:Program}{w:World}{K:Qqy}{mg:Qqx}{base:Heap}{A:Ad}
def SJ(A:Ad):Sp:=λvs H Q _=>∃(p dx:Addr)(a b c d:V),vs=[.ref p,a,b,c,d]/\H p=some (.ins A.gW dx [])/\∀H',(∀x,x≠p->H' x=H x)->H' p=some (.ins A.gW dx (MM a b c d))->Q .jg H'
theorem C_(T:Txt mg)(O:Ok K mg A):il P w K mg base mD 1 A.nj A.rg ["self","name","text","upper_name","lower_name"] (SJ A):=by
 refine O.um.f.q_ w_ λjt A0 outer s H vs Q E hr h=>?_
 obtain⟨p,dx,a,b,c,d,rfl,hp,k⟩:=h
 refine⟨_,(de (lE (pv 0) (pv 1) rfl)
  (de (lE (pv 0) (pv 2) rfl)
  (de (lE (pv 0) (pv 3) rfl)
  (f_ (lE (pv 0) (pv 4) rfl))))),?_⟩
 refine O5 ?_;intro _ _ _
 refine⟨_,rfl,_,rfl,p,A.gW,dx,_,rfl,hp,O.iR,O.gT,(by show 0<1000;decide),?_⟩
 refine⟨_,rfl,_,rfl,p,A.gW,dx,_,rfl,b_,O.iR,O.jO,(by show 1<1000;decide),?_⟩
 refine⟨_,rfl,_,rfl,p,A.gW,dx,_,rfl,b_,O.iR,O.iH,(by show 2<1000;decide),?_⟩
 refine⟨_,rfl,_,rfl,p,A.gW,dx,_,rfl,b_,O.iR,O.iI,(by show 3<1000;decide),?_⟩
 exact k _ (λx hx=>by rw[e_ hx,e_ hx,e_ hx,e_ hx]) (Eq.trans b_ (aaQ (λl=>some (HO.ins A.gW dx l)) (Pz a b c d)))
def SK(A:Ad):Sp:=λvs H Q _=>∃(p dx:Addr)(a b c d e:V),vs=[.ref p,a,b,c,d,e]/\H p=some (.ins A.gY dx [])/\∀H',(∀x,x≠p->H' x=H x)->H' p=some (.ins A.gY dx (MN a b c d e))->Q .jg H'
theorem pC(T:Txt mg)(O:Ok K mg A):il P w K mg base mD 1 A.mr A.pW ["self","name","file","puts","cuts","other"] (SK A):=by
 refine O.lU.f.q_ vF λjt A0 outer s H vs Q E hr h=>?_
 obtain⟨p,dx,a,b,c,d,e,rfl,hp,k⟩:=h
 refine⟨_,(de (lE (pv 0) (pv 1) rfl)
  (de (lE (pv 0) (pv 2) rfl)
  (de (lE (pv 0) (pv 3) rfl)
  (de (lE (pv 0) (pv 4) rfl)
  (f_ (lE (pv 0) (pv 5) rfl)))))),?_⟩
 refine Q8 ?_;intro _ _ _ _
 refine⟨_,rfl,_,rfl,p,A.gY,dx,_,rfl,hp,O.jo,O.i0,(by show 0<1000;decide),?_⟩
 refine⟨_,rfl,_,rfl,p,A.gY,dx,_,rfl,b_,O.jo,O.kl,(by show 1<1000;decide),?_⟩
 refine⟨_,rfl,_,rfl,p,A.gY,dx,_,rfl,b_,O.jo,O.jQ,(by show 2<1000;decide),?_⟩
 refine⟨_,rfl,_,rfl,p,A.gY,dx,_,rfl,b_,O.jo,O.jR,(by show 3<1000;decide),?_⟩
 refine⟨_,rfl,_,rfl,p,A.gY,dx,_,rfl,b_,O.jo,O.i4,(by show 4<1000;decide),?_⟩
 exact k _ (λx hx=>by rw[e_ hx,e_ hx,e_ hx,e_ hx,e_ hx]) (Eq.trans b_ (aaQ (λl=>some (HO.ins A.gY dx l)) (PB a b c d e)))
def MT(A:Ad):Sp:=λvs H Q _=>∃(p dx a:Addr)(ps:List Pt)(f:Str),vs=[.ref p,.ref a,.str f]/\H p=some (.ins A.ie dx [])/\yU A H a ps/\Small ps/\
 ((gR ps f).map (·.nm)).Nodup/\qy (gR ps f)/\Kl (gR ps f)/\
 ∀(H':Hp),(∀b o,H b=some o->b≠p->H' b=some o)->Gm A H' p (gR ps f) (rowOf (Ah (gR ps f)) (mF ps f))->Q .jg H'
theorem lD.off{H H':Hp}{p C dx:Addr}{fs:List (Str×V)}{v:V}{n:Nm}(x:lD H v n)(hp:H p=some (.ins C dx fs))(s:∀b o,H b=some o->b≠p->H' b=some o):lD H' v n:=by
 obtain⟨t,e,h⟩:=x
 exact⟨t,e,s _ _ h (i9 h hp (λz=>by cases z))⟩
theorem Gg.off{H H':Hp}{p C dx:Addr}{fs:List (Str×V)}{v:V}{n:Option Nm}(x:Gg H v n)(hp:H p=some (.ins C dx fs))(s:∀b o,H b=some o->b≠p->H' b=some o):Gg H' v n:=by
 cases n with
 | none=>exact x
 | some n=>exact lD.off x hp s
theorem nv.off{H H':Hp}{p C dx a:Addr}{fs:List (Str×V)}{l:Ln}(x:nv A H a l)(hp:H p=some (.ins C dx fs))(hf:fs.length<2)(s:∀b o,H b=some o->b≠p->H' b=some o):nv A H' a l:=by
 obtain⟨Yl,vn,vu,vl,h,h1,h2,h3⟩:=x
 have:a≠p:=λz=>by
  rw[z,hp] at h
  have e:=aaz h
  injection e with _ _ e
  rw[e] at hf
  exact absurd hf (by unfold MM;simp)
 exact⟨Yl,vn,vu,vl,s _ _ h this,h1.off hp s,h2.off hp s,h3.off hp s⟩
theorem qO.off{H H':Hp}{p C dx a:Addr}{fs:List (Str×V)}{ls:List Ln}(x:qO A H a ls)(hp:H p=some (.ins C dx fs))(hf:fs.length<2)(s:∀b o,H b=some o->b≠p->H' b=some o):qO A H' a ls:=by
 obtain⟨as,h,q⟩:=x
 exact⟨as,s _ _ h (i9 h hp (λz=>by cases z)),Paired.jh q λ_ _ z=>z.off hp hf s⟩
theorem Ao.off{H H':Hp}{p C dx a:Addr}{fs:List (Str×V)}{ns:List Nm}(x:Ao H a ns)(hp:H p=some (.ins C dx fs))(s:∀b o,H b=some o->b≠p->H' b=some o):Ao H' a ns:=by
 obtain⟨as,h,q⟩:=x
 exact⟨as,s _ _ h (i9 h hp (λz=>by cases z)),Paired.jh q λ_ _ z=>z.off hp s⟩
theorem oA.off{H H':Hp}{p C dx a:Addr}{fs:List (Str×V)}{pt:Pt}(x:oA A H a pt)(hp:H p=some (.ins C dx fs))(hf:fs.length<2)(s:∀b o,H b=some o->b≠p->H' b=some o):oA A H' a pt:=by
 obtain⟨Yl,vf,pu,cu,vo,h,h1,h2,h3,h4⟩:=x
 have:a≠p:=λz=>by
  rw[z,hp] at h
  have e:=aaz h
  injection e with _ _ e
  rw[e] at hf
  exact absurd hf (by unfold MN;simp)
 exact⟨Yl,vf,pu,cu,vo,s _ _ h this,h1,h2.off hp hf s,h3.off hp s,h4⟩
theorem yU.off{H H':Hp}{p C dx a:Addr}{fs:List (Str×V)}{ps:List Pt}(x:yU A H a ps)(hp:H p=some (.ins C dx fs))(hf:fs.length<2)(s:∀b o,H b=some o->b≠p->H' b=some o):yU A H' a ps:=by
 obtain⟨as,h,q⟩:=x
 exact⟨as,s _ _ h (i9 h hp (λz=>by cases z)),Paired.jh q λ_ _ z=>z.off hp hf s⟩
theorem C5.off{H H':Hp}{p C dx a:Addr}{fs:List (Str×V)}{ls:List Ln}(x:C5 H a ls)(hp:H p=some (.ins C dx fs))(s:∀b o,H b=some o->b≠p->H' b=some o):C5 H' a ls:=by
 obtain⟨kvs,e1,e2⟩:=x
 refine⟨kvs,s _ _ e1 (i9 e1 hp (λz=>by cases z)),λn hn=>?_⟩
 obtain⟨b,dk,z1,z2,z3⟩:=e2 n hn
 exact⟨b,dk,z1,s _ _ z2 (i9 z2 hp (λz=>by cases z)),z3⟩
theorem Bf(T:Txt mg)(O:Ok K mg A):il P w K mg base mD 3 A.mv A.p8 ["self","patches","file"] (MT A):=by
 have Fm:=@C6 P w K mg base A T O
 have sW:=@v_ P w K mg base A T O
 have xC:=@wa P w K mg base A T O
 have Lz:=@IF P w K mg base A T O
 refine O.sH.f.q_ vG λjt A0 outer s H vs Q E hr h=>?_
 obtain⟨p,dx,a,ps,f,rfl,hp,ha,sm,nd,cl,tp,q⟩:=h
 have Ui:xo (gR ps f).length:=aai (qP ps f) sm.iE
 have xA:=lM ps f
 refine⟨_,(de (lE (pv 0) (oM O.BQ Fm hr (a_ (oM O.xl sW hr (a_ (pv 1) (a_ (pv 2) d_))) d_)) rfl)
   (f_ (lE (pv 0) (oM O.Kx Lz hr (a_ (oM O.sF xC hr (a_ (pv 1) (a_ (pv 2) d_))) (a_ (gK (pv 0) rfl) d_))) rfl))),?_⟩
 refine JT ?_;intro _
 refine⟨_,rfl,_,rfl,a,ps,f,rfl,ha,sm,λl1 H1 s1 VH Uj=>?_⟩
 refine⟨l1,_,rfl,Uj,Ui,nd,cl,tp,λah H2 s2 VI Uk=>?_⟩
 have Ym:gs H H2:=s1.trans s2
 have A2:=Ym p _ hp
 refine⟨_,rfl,p,A.ie,dx,_,rfl,A2,O.j8,O.jy,(by show 0<1000;decide),?_⟩
 have s3:∀b o,H2 b=some o->b≠p->(upd H2 p (.ins A.ie dx (jG "ahead" (.ref ah) []))) b=some o:=λb o e n=>by rw[e_ n];exact e
 have ha3:=(ha.same Ym).off A2 (by decide) s3
 have Ul:=Uk.off A2 s3
 refine⟨_,rfl,_,rfl,a,ps,f,rfl,ha3,sm,λst H4 s4 VJ Um=>?_⟩
 have T2:H4 p=some (.ins A.ie dx (jG "ahead" (.ref ah) [])):=s4 p _ b_
 refine⟨_,rfl,p,A.ie,dx,_,_,rfl,T2,O.j8,O.jy,IG ah,st,ah,mF ps f,gR ps f,rfl,Um,Ul.same s4,aai xA.length_le Ui,(xA.map _).nodup nd,λl hl=>YO (xA.subset hl),tp,λl H5 s5 VL Uo=>?_⟩
 have Yn:=s5 p _ T2
 refine⟨_,rfl,p,A.ie,dx,_,rfl,Yn,O.j8,O.iu,(by show 1<1000;decide),?_⟩
 have s6:∀b o,H5 b=some o->b≠p->(upd H5 p (.ins A.ie dx (jG "lines" (.ref l) (jG "ahead" (.ref ah) [])))) b=some o:=λb o e n=>by rw[e_ n];exact e
 refine q _ (λb o hb nb=>?_) ⟨dx,ah,l,Eq.trans b_ (aaQ (λl=>some (HO.ins A.ie dx l)) (PD ah l)),?_,?_⟩
 ·rw[e_ nb]
  refine s5 b o (s4 b o ?_)
  rw[e_ nb]
  exact Ym b o hb
 ·exact((Ul.same s4).same s5).off Yn s6
 ·exact Uo.off Yn (by show 1<2;decide) s6
open Classical in
def W4(A:Ad):Sp:=λvs H Q _=>∃(p:Addr)(al row:List Ln)(i j:Nat)(a b:Ln),vs=[.ref p,.int i,.int j]/\Gm A H p al row/\row[i]?=some a/\row[j]?=some b/\b.nm∈al.map (·.nm)/\Q (.bl (decide (Ah al a.nm b.nm))) H
open Classical in
theorem E7(T:Txt mg)(O:Ok K mg A):il P w K mg base mD 1 A.p9 A.p_ ["self","first","second"] (W4 A):=by
 refine O.sI.f.q_ vH λjt A0 outer s H vs Q E hr h=>?_
 obtain⟨p,al,row,i,j,x,y,rfl,⟨dx,ah,l,h1,⟨kh,h2,h3⟩,⟨as,h4,h5⟩⟩,hi,hj,hy,q⟩:=h
 obtain⟨b,hb,dxb,vn,vu,vl,g1,⟨t,rfl,g2⟩,g3,g4⟩:=iY h5 hi
 obtain⟨c,hc,dxc,vn',vu',vl',k1,⟨t',rfl,k2⟩,k3,k4⟩:=iY h5 hj
 obtain⟨e,dk,z1,z2,z3⟩:=h3 y.nm hy
 have VM:(as.map V.ref)[i]?=some (.ref b):=by rw[aam,hb];rfl
 have VN:(as.map V.ref)[j]?=some (.ref c):=by rw[aam,hc];rfl
 refine⟨_,(f_ (gZ (Oy (ph (by exact iZ hr) (gK (lC (gK (pv 0) rfl) (pv 1)) rfl) (zJ hr (gK (pv 0) rfl) (gK (lC (gK (pv 0) rfl) (pv 2)) rfl)))))),?_⟩
 refine⟨_,rfl,p,A.ie,dx,_,_,rfl,h1,O.j8,O.iu,lA ah l,_,rfl,l,_,_,_,rfl,rfl,gO.of h4,gJ rfl VM,b,A.gW,dxb,_,_,rfl,g1,O.iR,O.gT,i6,?_⟩
 refine⟨_,rfl,p,A.ie,dx,_,_,rfl,h1,O.j8,O.jy,Gk ah l,_,rfl,p,A.ie,dx,_,_,rfl,h1,O.j8,O.iu,lA ah l,_,rfl,l,_,_,_,rfl,rfl,gO.of h4,gJ rfl VN,c,A.gW,dxc,_,_,rfl,k1,O.iR,O.gT,i6,ah,.ref e,rfl,?_,e,_,rfl,ja.t (k:=nk x.nm) z2 g2,?_⟩
 ·have:=ja.t (k:=nk y.nm) h2 k2
  rw[z1] at this
  exact this
 ·have e2:(iT dk (nk x.nm)).isSome=decide (Ah al x.nm y.nm):=by
   rw[aa4,abc];exact z3 x.nm
  rw[e2]
  exact q
def W5(A:Ad):Sp:=λvs H Q _=>∃(p:Addr)(al row:List Ln),vs=[.ref p]/\Gm A H p al row/\(∀l∈row,l.nm∈al.map (·.nm))/\xo row.length/\∀r H' vs,gs H H'->H r=none->H' r=some (.lst vs)->iF H' (ki (Ah al) row) vs->Q (.ref r) H'
open Classical in
noncomputable def xp(lt:Nm->Nm->Prop)(row:List Ln)(i m:Nat):List (Nat×Nat):=((List.range' (i+1) m).filter λj=>decide (¬ltAt lt row i j)).map λj=>(i,j)
noncomputable def E8(lt:Nm->Nm->Prop)(row:List Ln)(i:Nat):List (Nat×Nat):=(List.range i).flatMap λi=>xp lt row i (row.length-(i+1))
theorem KQ(lt:Nm->Nm->Prop)(row:List Ln):E8 lt row row.length=ki lt row:=rfl
theorem B2(lt:Nm->Nm->Prop)(row:List Ln)(i:Nat):E8 lt row (i+1)=E8 lt row i++xp lt row i (row.length-(i+1)):=by
 unfold E8
 rw[List.range_succ,abK,aaE,abC,aaM]
theorem IH(lt:Nm->Nm->Prop)(row:List Ln)(i m:Nat)(h:¬ltAt lt row i (i+1+m)):xp lt row i (m+1)=xp lt row i m++[(i,i+1+m)]:=by
 unfold xp
 rw[show m+1=m+1 from rfl,<-List.range'_append_1 (s:=i+1) (m:=m) (n:=1),aaH,aau]
 congr 1
 show List.map _ (List.filter _ [i+1+m])=_
 rw[ZT (by simpa using h)]
 rfl
theorem Gn(lt:Nm->Nm->Prop)(row:List Ln)(i m:Nat)(h:ltAt lt row i (i+1+m)):xp lt row i (m+1)=xp lt row i m:=by
 unfold xp
 rw[<-List.range'_append_1 (s:=i+1) (m:=m) (n:=1),aaH,aau]
 show _++List.map _ (List.filter _ [i+1+m])=_
 rw[aab (by simpa using h)]
 simp
theorem E9(lt:Nm->Nm->Prop)(row:List Ln)(i m:Nat):(xp lt row i m).length<=m:=by
 unfold xp
 rw[Ob]
 exact aai (aaN _ _) (by rw[List.length_range'];exact WR _)
theorem E_(lt:Nm->Nm->Prop)(row:List Ln):∀i,(E8 lt row i).length<=i*row.length
 | 0=>aaI _
 | i+1=>by
  rw[B2,XF,Nat.succ_mul]
  have:=E_ lt row i
  have:=E9 lt row i (row.length-(i+1))
  omega
open Classical in
theorem sR(T:Txt mg)(O:Ok K mg A):il P w K mg base mD 2 A.nJ A.nK ["self"] (W5 A):=by
 have xD:=@E7 P w K mg base A T O
 refine O.jN.f.q_ jK λjt A0 outer s H vs Q E hr h=>?_
 obtain⟨p,al,row,rfl,S,VO,jS,q⟩:=h
 obtain⟨dx,ah,l,h1,h2,⟨as,h4,h5⟩⟩:=id S
 have hlen:=aak h5
 have yX:row.length<=4000:=jS
 have sz:sizeLine=16777216:=aaw
 refine⟨_,(de (k8 1 jK (iQ d_))
   (de (ix aar rfl (jE rfl T.kE (a_ (gM gD (by rfl) T.jC aav (a_ (gK (pv 0) rfl) d_)) d_)) (rF 2 jK) (f_ (ix aar rfl (wG rfl T.kE (a_ (gG iG (pv 2) gq) (a_ (gM gD (by rfl) T.jC aav (a_ (gK (pv 0) rfl) d_)) d_))) (rF 3 jK) (f_ (iC (ku (kX (zH (pv 0) O.j8 O.sI xD hr (a_ (pv 2) (a_ (pv 3) d_))))) (f_ (h_ (nS aaF aaS aaT kj (pv 1) (a_ (wK (a_ (pv 2) (a_ (pv 3) d_))) d_)))) g_)))))
   (f_ (gZ (pv 1))))),?_⟩
 refine Ep ?_;intro _ _
 refine⟨L2.jS,λr rG=>?_⟩
 have s1:gs H (upd H r (.lst [])):=(gs.refl H).new rG
 have el:((as.map V.ref).length:Int)=(row.length:Int):=by rw[Ob,hlen]
 refine⟨_,rfl,p,A.ie,dx,_,_,rfl,s1 _ _ h1,O.j8,O.iu,lA ah l,l,_,rfl,.inl (gO.of (s1 _ _ h4)),_,rfl,by omega,by omega,?_⟩
 rw[el,abF]
 let Jv:=λ(i:Nat) (Z:St) (H2:Hp)=>∃(v2 v3:Option V)(vs:List V),Z=[rr p,rr r,v2,v3]/\gs H H2/\H2 r=some (.lst vs)/\iF H2 (E8 (Ah al) row i) vs
 refine jX Jv ⟨none,none,[],rfl,s1,b_,.nil⟩ ?_ ?_
 ·rintro i Z H2 hi ⟨v2,v3,vs,rfl,s2,k1,k2⟩
  rw[show(0:Int)+(i:Int)=(i:Int) by omega]
  refine⟨_,rfl,_,_,rfl,rfl,_,rfl,p,A.ie,dx,_,_,rfl,s2 _ _ h1,O.j8,O.iu,lA ah l,l,_,rfl,.inl (gO.of (s2 _ _ h4)),_,_,rfl,⟨by omega,by omega,by omega,by omega⟩,?_⟩
  rw[el,show((row.length:Int)-((i:Int)+1)).toNat=row.length-(i+1) by omega]
  let Jv:=λ(m:Nat) (Z:St) (H3:Hp)=>∃(v3:Option V)(vs:List V),Z=[rr p,rr r,ri i,v3]/\gs H H3/\H3 r=some (.lst vs)/\iF H3 (E8 (Ah al) row i++xp (Ah al) row i m) vs
  refine jX Jv ⟨v3,vs,rfl,s2,k1,by unfold xp;simpa using k2⟩ ?_ ?_
  ·rintro m Z H3 hm ⟨v3,vs,rfl,s3,k1,k2⟩
   rw[show(i:Int)+1+(m:Int)=((i+1+m:Nat):Int) by omega]
   have hj:i+1+m<row.length:=by omega
   have ei:row[i]?=some row[i]:=TH hi
   have ej:row[i+1+m]?=some row[i+1+m]:=TH hj
   have wz:vs.length=(E8 (Ah al) row i++xp (Ah al) row i m).length:=(aak k2).symm
   have Up:=E_ (Ah al) row i
   have QI:=E9 (Ah al) row i m
   have hb3:i*row.length<=4000*4000:=Nat.mul_le_mul (by omega) yX
   rw[XF] at wz
   refine⟨_,rfl,p,dx,_,rfl,s3 _ _ h1,PH ah l,_,rfl,_,rfl,p,al,row,i,i+1+m,_,_,rfl,S.same s3,ei,ej,VO _ (acj hj),_,rfl,?_⟩
   have jT:ltAt (Ah al) row i (i+1+m)↔Ah al row[i].nm row[i+1+m].nm:=by
    constructor
    ·rintro⟨a,b,ha,hb,z⟩
     rw[ei] at ha;rw[ej] at hb;cases ha;cases hb
     exact z
    ·exact λz=>⟨_,_,ei,ej,z⟩
   by_cases hc:Ah al row[i].nm row[i+1+m].nm
   ·rw[WV hc]
    exact jD ⟨_,vs,rfl,s3,k1,by rw[Gn _ _ _ _ (jT.mpr hc)];exact k2⟩
   ·rw[ZW hc]
    refine lX ?_
    refine⟨_,rfl,.inl ⟨rfl,_,gO.of k1⟩,_,rfl,_,rfl,L2.jS,λt ht=>?_⟩
    have ntr:r≠t:=gv k1 ht
    refine⟨r,vs,_,rfl,rfl,by rw[e_ ntr];exact k1,by omega,?_⟩
    refine⟨_,vs++[.ref t],rfl,(s3.new ht).upd rG,b_,?_⟩
    rw[IH _ _ _ _ (λz=>hc (jT.mp z)),<-aaO]
    refine iz (Paired.jh k2 λa v ⟨b,e,hb⟩=>⟨b,e,?_⟩) ⟨t,rfl,?_⟩
    ·rw[e_ (i9 hb k1 (by intro z;cases z)),e_ (gv hb ht)];exact hb
    ·rw[e_ ntr.symm,b_]
  ·rintro Z H3 ⟨v3,vs,rfl,s3,k1,k2⟩
   exact⟨_,_,vs,rfl,s3,k1,by rw[B2];exact k2⟩
 ·rintro Z H2 ⟨v2,v3,vs,rfl,s2,k1,k2⟩
  exact⟨_,rfl,q r H2 vs s2 rG k1 (by rw[KQ] at k2;exact k2)⟩
theorem Gg.upd{H:Hp}{v:V}{n:Option Nm}{x:Addr}{o o':HO}(h:Gg H v n)(hx:H x=some o')(ht:∀xs,o'≠.tup xs):Gg (L2.upd H x o) v n:=by
 cases n with
 | none=>exact h
 | some n=>exact lD.upd h hx ht
theorem nv.upd{A:Ad}{H:Hp}{a:Addr}{l:Ln}{x:Addr}{o o':HO}(h:nv A H a l)(hx:H x=some o')(ht:∀xs,o'≠.tup xs)(hi:∀C dx fs,o'≠.ins C dx fs):nv A (L2.upd H x o) a l:=by
 obtain⟨dx,vn,vu,vl,h0,h1,h2,h3⟩:=h
 exact⟨dx,vn,vu,vl,by rw[e_ (i9 h0 hx (λz=>hi _ _ _ z.symm))];exact h0,h1.upd hx ht,h2.upd hx ht,h3.upd hx ht⟩
theorem Ar{A:Ad}{H:Hp}{as:List Addr}{ls:List Ln}(p:Paired (nv A H) as ls){i:Nat}{l:Ln}(h:ls[i]?=some l):∃b,(as.map V.ref)[i]?=some (.ref b)/\nv A H b l:=by
 obtain⟨b,hb,z⟩:=iY p h
 exact⟨b,by rw[aam,hb];rfl,z⟩
def Bg(p:Pt)(k:Nat):List (Option Nm):=p.jx.map some++(p.iE.take k).flatMap λl=>[l.up,l.lo]
theorem named_eq(p:Pt):named p=(Bg p p.iE.length).filterMap id:=by
 unfold named Bg
 rw[aaq,abO,List.filterMap_map]
 congr 1
 ·induction p.jx with
  | nil=>rfl
  | cons x r ih=>rw[abt];show _=x::_;rw[<-ih]
 ·induction p.iE with
  | nil=>rfl
  | cons x r ih=>
   rw[aaE,aaE,abO,ih]
   congr 1
   cases x.up<;>cases x.lo<;>rfl
theorem As(p:Pt)(k:Nat):(Bg p k).length<=p.jx.length+2*k:=by
 unfold Bg
 rw[XF,Ob]
 have:∀(ls:List Ln),(ls.flatMap λl=>[l.up,l.lo]).length=2*ls.length:=λls=>by
  induction ls with
  | nil=>rfl
  | cons x r ih=>rw[aaE,XF,ih];simp only [ZY,List.length_nil];omega
 rw[this,aaC]
 omega
def MU(A:Ad):Sp:=λvs H Q _=>∃(a:Addr)(p:Pt),vs=[.ref a]/\oA A H a p/\xo p.iE.length/\xo p.jx.length/\∀r H',gs H H'->H r=none->Ao H' r (named p)->Q (.ref r) H'
theorem wd(T:Txt mg)(O:Ok K mg A):il P w K mg base mD 1 A.pX A.pY ["patch"] (MU A):=by
 refine O.sE.f.q_ kC λjt A0 outer s H vs Q E hr h=>?_
 obtain⟨a,p,rfl,⟨dx,vf,pu,cu,vo,g1,g2,⟨as,g3,TQ⟩,⟨cs,g4,Rp⟩,g5⟩,GG,Fn,q⟩:=h
 have hlen:=aak TQ
 have Oc:=aak Rp
 have Oh:p.iE.length<=4000:=GG
 have LA:p.jx.length<=4000:=Fn
 have sz:sizeLine=16777216:=aaw
 refine⟨_,(de (k8 1 kC (BC Cr (by rfl) T.zW ab2 (a_ (gK (pv 0) rfl) d_)))
   (de (ix aar rfl (iq (gK (pv 0) rfl)) (rF 2 kC) (de (h_ (nS aaF aaS aaT kj (pv 1) (a_ (gK (pv 2) rfl) d_)))
   (f_ (h_ (nS aaF aaS aaT kj (pv 1) (a_ (gK (pv 2) rfl) d_))))))
   (f_ (gZ (zy pT (gr kT).names [3] rfl (iq (pv 1)) rfl (by decide+kernel) (λ_ _ _ _=>(iK (i:=3) kC.nd rfl (Or.inl rfl))) (λ_ _ _ _=>⟨_,qr (jv (tw (pv 3))),by(try simp only [lH]);rfl⟩) (λ_ _ _ _=>CD (pv 3))))))),?_⟩
 refine Ep ?_;intro _ _
 refine⟨_,rfl,a,A.gY,dx,_,_,rfl,g1,O.jo,O.jR,EZ,cu,cs,rfl,.inl (gO.of g4),λl hl=>?_⟩
 have s1:gs H (upd H l (.lst cs)):=(gs.refl H).new hl
 dsimp only [nE];refine LN ?_;intro _
 let Jv:=λ(i:Nat) (Z:St) (H2:Hp)=>∃(v:Option V)(xs:List V),Z=[rr a,rr l,v,none]/\gs H H2/\H2 l=some (.lst xs)/\Paired (Gg H) xs (Bg p i)
 refine⟨_,rfl,a,A.gY,dx,_,_,rfl,s1 _ _ g1,O.jo,O.jQ,EY,pu,rfl,⟨_,gO.of (s1 _ _ g3)⟩,iV (K:=K) (a:=pu) (xs:=as.map V.ref) Jv
  ⟨none,cs,rfl,s1,b_,?_⟩ (by rintro _ _ _ _ ⟨_,_,_,s2,_⟩;exact gO.of (s2 _ _ g3)) ?_ ?_⟩
 ·unfold Bg
  rw[aby,abC,aaM]
  clear Oc LA Fn q g4 s1
  generalize p.jx=ms at Rp
  induction Rp with
  | nil=>exact .nil
  | cons f t ih=>exact .cons f ih
 ·rintro i v Z H2 hx ⟨v0,xs,rfl,s2,h1,h2⟩
  obtain⟨b,hb,rfl⟩:=j9 hx
  obtain⟨ln,wz,Ry,vn,vu,vl,k1,k2,k3,k4⟩:=ik TQ hb
  have hi:i<p.iE.length:=(List.getElem?_eq_some_iff.mp wz).1
  have hxl:xs.length<=p.jx.length+2*i:=by rw[aak h2];exact As p i
  have e:Bg p (i+1)=Bg p i++[ln.up]++[ln.lo]:=by
   unfold Bg
   rw[take_snoc wz,abK,aaE,abC,aaO,aaO]
   rfl
  refine⟨_,rfl,.inl ⟨rfl,_,gO.of h1⟩,_,rfl,b,A.gW,Ry,_,_,rfl,s2 _ _ k1,O.iR,O.iH,Gh,l,_,_,rfl,rfl,h1,by omega,?_⟩
  have s3:gs H (upd H2 l (.lst (xs++[vu]))):=s2.upd hl
  refine⟨_,rfl,.inl ⟨rfl,_,gO.of b_⟩,_,rfl,b,A.gW,Ry,_,_,rfl,s3 _ _ k1,O.iR,O.iI,Gi,l,_,_,rfl,rfl,b_,by rw[XF];show xs.length+1<_;omega,?_⟩
  refine⟨_,_,rfl,s3.upd hl,b_,?_⟩
  rw[e]
  exact iz (iz h2 k3) k4
 ·rintro Z H2 ⟨v0,xs,rfl,s2,h1,h2⟩
  have e0:(as.map V.ref).length=p.iE.length:=by rw[Ob,hlen]
  rw[e0] at h2
  have hxl:xs.length<=p.jx.length+2*p.iE.length:=by rw[aak h2];exact As p _
  refine⟨_,rfl,l,rfl,⟨_,gO.of h1⟩,kR (K:=K) (a:=l) (xs:=xs) (by omega) (λi ys Z H4=>∃(v3:Option V),Z=[rr a,rr l,v0,v3]/\H4=H2/\ys.length<=i/\Paired (lD H) ys (((Bg p p.iE.length).take i).filterMap id))
   ⟨none,rfl,rfl,WR _,.nil⟩ (by rintro _ _ _ _ _ ⟨_,_,e,e3,_⟩;subst e;exact⟨gO.of h1,e3⟩) ?_ ?_⟩
  ·rintro i v ys Z H4 hx ⟨v3,rfl,rfl,e3,h6⟩
   obtain⟨o,ho,hv⟩:=ik h2 hx
   refine⟨_,rfl,_,rfl,?_⟩
   rw[take_snoc ho,abO]
   cases o with
   | none=>
    rw[show v=V.jg from hv]
    exact⟨_,rfl,rfl,by omega,by simpa using h6⟩
   | some m=>
    obtain⟨t,rfl,ht⟩:=(show lD H v m from hv)
    exact⟨_,rfl,_,rfl,rfl,NU,iz h6 ⟨t,rfl,ht⟩⟩
  ·rintro ys Z H4 ⟨v3,rfl,rfl,e3,h6⟩ r rG
   rw[aak h2,aaq,<-named_eq] at h6
   have s5:=s2.new (o:=.lst ys) rG
   exact q r _ s5 (s2.free rG) ⟨ys,b_,Paired.jh h6 λ_ _ z=>z.same s5⟩
def PJ(A:Ad):Sp:=λvs H Q _=>∃(a:Addr)(p:Pt),vs=[.ref a]/\oA A H a p/\xo p.iE.length/\xo p.jx.length/\∀r H',gs H H'->H r=none->H' r=some (.lst (gw (ir p)))->Q (.ref r) H'
theorem B3(p:Pt):(named p).length<=p.jx.length+2*p.iE.length:=by
 rw[named_eq]
 exact aai (List.length_filterMap_le _ _) (As p _)
theorem sS(T:Txt mg)(O:Ok K mg A):il P w K mg base mD 2 A.nH A.nI ["patch"] (PJ A):=by
 have xE:=@wd P w K mg base A T O
 refine O.o5.f.q_ kO λjt A0 outer s H vs Q E hr h=>?_
 obtain⟨a,p,rfl,pa,GG,Fn,q⟩:=h
 obtain⟨dx,vf,pu,cu,vo,g1,g2,g3,g4,g5⟩:=id pa
 have Oh:p.iE.length<=4000:=GG
 have LA:p.jx.length<=4000:=Fn
 have sz:sizeLine=16777216:=aaw
 have QK:=B3 p
 refine⟨_,(de (Cw (j:=1) nG (gr jV).names [2] kO.nd rfl rfl rfl (iq (oM O.sE xE hr (a_ (pv 0) d_))) rfl (by decide+kernel) (λ_ _ _ _=>(iK (i:=2) kO.nd rfl (Or.inl rfl))) (λ_ _ _ _=>⟨_,qr (ij GY (jH l8 (pv 2) gq (λ_ _=>rfl)) (gK (pv 0) rfl) (iP _)),by(try simp only [lH]);rfl⟩) (λ_ _ _ _=>CD (jH l8 (pv 2) gq (λ_ _=>rfl))))
   (de (iC (jv (tw (gK (pv 0) rfl))) (f_ (h_ (nS aaF aaS aaT kj (pv 1) (a_ (gK (pv 0) rfl) d_)))) g_)
   (f_ (gZ (pv 1))))),?_⟩
 refine Ep ?_;intro _ _
 refine⟨_,rfl,a,p,rfl,pa,GG,Fn,λn H1 s1 hn0 ⟨ns,hn1,Qo⟩=>?_⟩
 have Yo:=aak Qo
 let Jv:=λ(i:Nat) (ys:List V) (Z:St) (H4:Hp)=>∃(v2:Option V)(zs:List Str),Z=[rr a,none,v2]/\H4=H1/\ys=gw zs/\zs.length<=i/\zs=(((named p).take i).filter λn=>n.1≠p.nm).map (·.1)
 refine⟨n,rfl,⟨_,gO.of hn1⟩,kR (K:=K) (a:=n) (xs:=ns) (by omega) Jv
  ⟨none,[],rfl,rfl,rfl,WR _,rfl⟩ (by rintro _ _ _ _ _ ⟨_,zs,_,e,e2,e3,_⟩;subst e e2;exact⟨gO.of hn1,by rw[Ob];exact e3⟩) ?_ ?_⟩
 ·rintro i v ys Z H4 hx ⟨v2,zs,rfl,rfl,rfl,e3,e4⟩
  obtain⟨m,hm,t,rfl,ht⟩:=ik Qo hx
  have ht0:Cn ((nk m).map kV) 0=some (V.str m.1):=gJ (j:=0) rfl rfl
  refine⟨_,rfl,t,_,0,_,rfl,rfl,pf.of ht,ht0,_,rfl,a,A.gY,dx,_,_,rfl,s1 _ _ g1,O.jo,O.i0,sM,rfl,_,rfl,?_⟩
  have ed:decide (V.str m.1=V.str p.nm)=decide (m.1=p.nm):=by
   by_cases e:m.1=p.nm
   ·rw[WV e,WV (aaQ V.str e)]
   ·rw[ZW e,ZW λz=>e (V.str.inj z)]
  rw[ed]
  subst e4
  by_cases e:m.1=p.nm
  ·rw[WV e]
   refine jD ⟨_,_,rfl,rfl,rfl,by omega,?_⟩
   rw[take_snoc hm,aaH,aab (by simpa using e)]
   simp
  ·rw[ZW e]
   refine lX ⟨_,rfl,t,_,0,_,rfl,rfl,pf.of ht,ht0,_,_,rfl,rfl,ju _ _,by rw[XF];show _+1<=_;omega,?_⟩
   rw[take_snoc hm,aaH,ZT (by simpa using e)]
   simp
 ·rintro ys Z H4 ⟨v2,zs,rfl,rfl,rfl,e3,e4⟩ r rG
  rw[Yo,aaq] at e4
  have s5:=s1.new (o:=.lst (gw zs)) rG
  refine⟨_,rfl,a,A.gY,dx,_,_,rfl,s5 _ _ g1,O.jo,O.i4,tL,_,rfl,?_⟩
  unfold ir at q
  rw[<-e4] at q
  cases ho:p.other with
  | none=>
   rw[ho] at g5 q
   rw[show vo=V.jg from g5]
   exact⟨_,rfl,q r _ s5 (s1.free rG) (by rw[b_];simp)⟩
  | some x=>
   rw[ho] at g5 q
   rw[show vo=V.str x from g5] at g1 ⊢
   refine⟨_,rfl,.inl ⟨rfl,_,gO.of b_⟩,_,rfl,a,A.gY,dx,_,_,rfl,s5 _ _ g1,O.jo,O.i4,tL,r,_,_,rfl,rfl,b_,by rw[Ob];omega,?_⟩
   exact⟨_,rfl,q r _ (s5.upd (s1.free rG)) (s1.free rG) (by rw[b_];show _=some (HO.lst (gw (zs++[x])));rw[<-ju])⟩
def SM(H:Hp)(a:Addr)(kn:Nat->Option Nm):Prop:=∃kvs:List (Key×V),H a=some (.dK kvs)/\∀s:Nat,match kn s with|some m=>∃v,iT kvs (Sum.inl (s:Int))=some v/\lD H v m|none=>iT kvs (Sum.inl (s:Int))=none
def W6:Sp:=λvs H Q _=>∃(a:Addr)(n:Nat)(kn:Nat->Option Nm),vs=[.ref a,.int n]/\SM H a kn/\n<=4000/\∀p H' xs,gs H H'->H p=none->H' p=some (.lst xs)->xs.length=n->(∀i v,xs[i]?=some v->Gg H v (MD kn (n-1-i) i))->Q (.ref p) H'
theorem Au(T:Txt mg)(O:Ok K mg A):il P w K mg base mD 1 A.ug A.uh ["kept_names","size"] W6:=by
 refine O.yB.f.q_ oe λjt A0 outer s H vs Q E hr h=>?_
 obtain⟨a,n,kn,rfl,⟨kvs,h1,h2⟩,hn,q⟩:=h
 have sz:sizeLine=16777216:=aaw
 refine⟨_,(de (k8 2 oe (gG FN (iQ (a_ uv d_)) (pv 1)))
   (de (ix aar rfl (wQ rfl T.kE (a_ (gG wH (pv 1) gq) (a_ (xM rL gq) (a_ (xM rL gq) d_)))) (rF 3 oe) (f_ (Ck (JM (by exact iZ hr) (pv 0) (gG iG (pv 3) gq) (lC (pv 2) (gG iG (pv 3) gq)) ⟨rfl,rfl,rfl,rfl⟩) (Cj (pv 2) (pv 3) set_list))))
   (f_ (gZ (pv 2))))),?_⟩
 refine Ep ?_;intro _ _
 refine⟨L2.jS,λl hl=>?_⟩
 refine⟨_,rfl,l,_,_,rfl,rfl,b_,by omega,by omega,by simp;omega,λp hp=>?_⟩
 have qU:p≠l:=λz=>by rw[z,b_] at hp;cases hp
 have GF:H p=none:=by rw[e_ qU] at hp;exact hp
 have e0:(List.replicate (n:Int).toNat [V.jg]).flatten=List.replicate n V.jg:=by
  rw[abF]
  clear q hn
  induction n with
  | zero=>rfl
  | succ n ih=>rw[aa6,abT,ih,aa6];rfl
 rw[e0]
 have s1:gs H (upd (upd H l (.lst [V.jg])) p (.lst (List.replicate n V.jg))):=((gs.refl H).upd hl).upd GF
 refine⟨_,rfl,_,_,rfl,rfl,_,rfl,_,rfl,_,_,rfl,⟨by omega,by omega,by omega,by omega⟩,?_⟩
 rw[show((n:Int)-2 - -1).toNat=n-1 by omega]
 let Jv:=λ(m:Nat) (Z:St) (H2:Hp)=>∃(v:Option V)(xs:List V),Z=[rr a,ri n,rr p,v]/\gs H H2/\H2 p=some (.lst xs)/\xs.length=n/\∀i v,xs[i]?=some v->n-1<=i+m->Gg H v (MD kn (n-1-i) i)
 refine uA Jv ⟨none,_,rfl,s1,b_,by simp,λi v hv hi=>?_⟩ ?_ ?_
 ·have jT:i<n:=by have:=(List.getElem?_eq_some_iff.mp hv).1;simpa using this
  have:v=V.jg:=by
   have:=WW hv
   exact List.eq_of_mem_replicate this
  rw[this,show n-1-i=0 by omega]
  exact rfl
 ·rintro m Z H2 hm ⟨v0,xs,rfl,s2,k1,k2,k3⟩
  obtain⟨j,hj⟩:∃j,j+m+2=n:=⟨n-2-m,by omega⟩
  rw[show(n:Int)-2+(m:Int) * -1=(j:Int) by omega]
  have hx:xs[j+1]?=some xs[j+1]:=TH (by omega)
  refine⟨_,rfl,a,rfl,.inl ⟨_,.inl (s2 _ _ h1)⟩,_,rfl,_,_,rfl,rfl,_,rfl,_,rfl,_,_,rfl,rfl,p,_,_,_,rfl,rfl,gO.of k1,gJ (j:=j+1) (by omega) hx,_,ja.k (k:=Sum.inl ((j:Int)+1)) (s2 _ _ h1),?_⟩
  refine⟨_,rfl,_,rfl,p,_,_,j,rfl,rfl,k1,CC rfl (by omega),?_⟩
  refine⟨_,_,rfl,s2.upd GF,b_,by rw[acn];exact k2,λi v hv hi=>?_⟩
  by_cases e:i=j
  ·subst e
   rw[abd (by omega)] at hv
   have hv:=aaz hv
   rw[<-hv,show n-1-i=(n-1-(i+1))+1 by omega]
   unfold MD
   have h3:=h2 (i+1)
   rw[show((i+1:Nat):Int)=(i:Int)+1 by omega] at h3
   cases hk:kn (i+1) with
   | none=>
    rw[hk] at h3
    rw[h3]
    exact k3 (i+1) _ hx (by omega)
   | some mm=>
    rw[hk] at h3
    obtain⟨u,z1,z2⟩:=h3
    rw[z1]
    exact z2
  ·rw[abn (λz=>e z.symm)] at hv
   exact k3 i v hv (by omega)
 ·rintro Z H2 ⟨v0,xs,rfl,s2,k1,k2,k3⟩
  exact⟨_,rfl,q p H2 xs s2 GF k1 k2 λi v hv=>k3 i v hv (by omega)⟩
def W8(K:Qqy)(A:Ad):Sp:=λvs H Q _=>∃(x:Str)(t a:Addr)(texts:List Str)(kn:Nat->Option Nm),vs=[.str x,.ref t,.ref a]/\gO K H t (gw texts)/\(∀H',gs H H'->gO K H' t (gw texts))/\SM H a kn/\texts.length<=4000/\∀p H',gs H H'->H p=none->qO A H' p (kK x texts kn)->Q (.ref p) H'
theorem Dc(T:Txt mg)(O:Ok K mg A):il P w K mg base mD 3 A.yc A.yd ["patch","texts","kept_names"] (W8 K A):=by
 have Bt:=@Au P w K mg base A T O
 have yY:=@C_ P w K mg base A T O
 refine O.BR.f.q_ jL λjt A0 outer s H vs Q E hr h=>?_
 obtain⟨x,t,a,texts,kn,rfl,_,ht,hkn,hn,q⟩:=h
 have sz:sizeLine=16777216:=aaw
 have et:((gw texts).length:Int)=(texts.length:Int):=by simp
 obtain⟨kvs,h1,h2⟩:=id hkn
 refine⟨_,(de (k8 3 jL (oM O.yB Bt hr (a_ (pv 2) (a_ (gM gD (by rfl) T.jC aav (a_ (pv 1) d_)) d_))))
   (de (k8 4 jL (iQ d_))
   (de (k8 5 jL uv)
   (de (ix aar rfl (My rfl T.EN (a_ (pv 1) d_)) (Ju rfl (u_ (rF 6 jL) (u_ (rF 7 jL) GU))) (f_ (iC (jv (ph (by exact iZ hr) (pv 6) (pv 2))) (f_ (k8 5 jL (zJ hr (pv 2) (pv 6)))) (de (h_ (nS aaF aaS aaT kj (pv 4) (a_ (vp O.Pl yY (hr.mono (by decide)) (by rfl) O.Pn O.um.b .nil pR (a_ (wK (a_ (pv 0) (a_ (gM gD (by rfl) T.jC aav (a_ (pv 4) d_)) d_))) (a_ (pv 7) (a_ (pv 5) (a_ (lC (pv 3) (pv 6)) d_))))) d_)))
   (f_ (k8 5 jL (gK (lC (pv 4) (xM rL gq)) rfl)))))))
   (f_ (gZ (pv 4))))))),?_⟩
 refine Q8 ?_;intro _ _ _ _
 refine⟨_,rfl,_,rfl,t,_,rfl,.inl (ht H (gs.refl H)),?_⟩
 rw[et]
 refine⟨a,texts.length,kn,rfl,hkn,hn,λb H1 bs s1 LW Up N_ T6=>?_⟩
 refine⟨L2.jS,λl hl=>?_⟩
 have XI:H l=none:=s1.free hl
 have s2:gs H1 (upd H1 l (.lst [])):=(gs.refl H1).new hl
 refine⟨_,rfl,t,rfl,⟨_,ht _ (s1.trans s2)⟩,Ki (K:=K) (a:=t) (xs:=gw texts) (λi Z H2=>∃(v6 v7:Option V)(vu:V)(u:Option Nm)(as:List Addr)(acc:List Ln),Z=[rs x,rr t,rr a,rr b,rr l,some vu,v6,v7]/\gs H1 H2/\H2 l=some (.lst (as.map V.ref))/\Paired (nv A H2) as acc/\acc.length<=i/\Gg H2 vu u/\acc++tR x kn i acc.length u (texts.drop i)=kK x texts kn)
  ⟨none,none,.jg,none,[],[],rfl,s2,b_,.nil,WR _,rfl,rfl⟩ (by rintro _ _ _ _ ⟨_,_,_,_,_,_,_,s3,_⟩;exact ht _ (s1.trans s3)) ?_ ?_⟩
 ·rintro i tv e Z H2 hx ⟨v6,v7,vu,u,as,acc,rfl,s3,k1,k2,k3,k4,k5⟩ he
  obtain⟨tx,htx,rfl⟩:=mx hx
  have hi:i<texts.length:=(List.getElem?_eq_some_iff.mp htx).1
  have hd:texts.drop i=tx::texts.drop (i+1):=by rw[aaP hi];congr 1;exact(List.getElem?_eq_some_iff.mp htx).2
  have s4:gs H2 (upd H2 e (.tup [.int i,.str tx])):=(gs.refl H2).new he
  have Oi:=s3.trans s4
  rw[hd] at k5
  unfold tR at k5
  refine⟨e,_,rfl,pf.of b_,rfl,_,_,rfl,_,_,rfl,rfl,?_⟩
  refine⟨_,rfl,_,rfl,a,_,rfl,ja.k (k:=Sum.inl (i:Int)) (Oi _ _ (s1 _ _ h1)),_,rfl,?_⟩
  have h3:=h2 i
  cases hk:kn i with
  | some m=>
   rw[hk] at h3 k5
   obtain⟨u',z1,z2⟩:=h3
   rw[z1]
   refine lX ⟨_,rfl,_,rfl,a,u',rfl,?_,?_⟩
   ·have:=ja.k (k:=Sum.inl (i:Int)) (Oi _ _ (s1 _ _ h1))
    rw[z1] at this
    exact this
   ·exact⟨_,_,_,some m,as,acc,rfl,Oi,s4 _ _ k1,Paired.jh k2 λ_ _ z=>z.same s4,by omega,(z2.same s1).same Oi,k5⟩
  | none=>
   rw[hk] at h3 k5
   rw[h3]
   have VO:=aak k2
   have el:((as.map V.ref).length:Int)=(acc.length:Int):=by rw[Ob,VO]
   refine jD ⟨_,rfl,.inl ⟨rfl,_,gO.of (s4 _ _ k1)⟩,_,rfl,_,rfl,l,_,rfl,.inl (gO.of (s4 _ _ k1)),?_⟩
   rw[el]
   refine⟨L2.jS,λnt hnt=>?_⟩
   have s5:=Oi.new (o:=.tup [.str x,.int acc.length]) hnt
   obtain⟨bv,hbv⟩:∃bv,bs[i]?=some bv:=⟨_,TH (by omega)⟩
   refine⟨_,rfl,_,rfl,_,rfl,_,rfl,b,_,_,_,rfl,rfl,gO.of (s5 _ _ Up),gJ rfl hbv,?_⟩
   intro o dx no QM Yp
   have QN:gs (upd (upd H2 e (.tup [.int i,.str tx])) nt (.tup [.str x,.int acc.length])) (upd (upd (upd (upd H2 e (.tup [.int i,.str tx])) nt (.tup [.str x,.int acc.length])) dx (.own o)) o (.ins A.gW dx [])):=λc u e=>by
    rw[e_ (gv e no),e_ (gv e QM)]
    exact e
   refine⟨o,dx,_,_,_,_,rfl,b_,λH6 r6 r7=>⟨rfl,?_⟩⟩
   have s6:gs (upd (upd H2 e (.tup [.int i,.str tx])) nt (.tup [.str x,.int acc.length])) H6:=λc u ec=>by
    rw[r6 c (gv ec no)]
    exact QN c u ec
   have Uq:gs H2 H6:=(s4.new hnt).trans s6
   have Ur:=Uq _ _ k1
   have Ma:nv A H6 o ⟨(x,acc.length),tx,u,MD kn (texts.drop (i+1)).length i⟩:=⟨dx,.ref nt,vu,bv,r7,⟨nt,rfl,s6 _ _ b_⟩,k4.same Uq,by
    have:=T6 i bv hbv
    rw[List.length_drop,show texts.length-(i+1)=texts.length-1-i by omega]
    exact(this.same s1).same (s3.trans Uq)⟩
   refine⟨l,_,_,rfl,rfl,Ur,by rw[Ob];omega,?_⟩
   have lo:l≠o:=λz=>by rw[z,r7] at Ur;cases Ur
   have e7:upd H6 l (.lst (as.map V.ref++[V.ref o])) l=some (.lst ((as++[o]).map V.ref)):=by rw[b_,aau];rfl
   have up:∀c ln,nv A H6 c ln->nv A (upd H6 l (.lst (as.map V.ref++[V.ref o]))) c ln:=λc ln z=>z.upd Ur (λ_ z=>by cases z) (λ_ _ _ z=>by cases z)
   have r77:upd H6 l (.lst (as.map V.ref++[V.ref o])) o=some (.ins A.gW dx (MM (.ref nt) (.str tx) vu bv)):=by rw[e_ lo.symm];exact r7
   refine⟨_,rfl,_,rfl,l,_,_,_,rfl,rfl,gO.of b_,Ef _ _,o,A.gW,dx,_,_,rfl,r77,O.iR,O.gT,i6,?_⟩
   refine⟨_,_,_,some (x,acc.length),as++[o],acc++[⟨(x,acc.length),tx,u,MD kn (texts.drop (i+1)).length i⟩],rfl,(s3.trans Uq).upd hl,e7,?_,NU,?_,?_⟩
   ·exact iz (Paired.jh k2 λc ln z=>up c ln (z.same Uq)) (up _ _ Ma)
   ·exact lD.upd ⟨nt,rfl,s6 _ _ b_⟩ Ur (λ_ z=>by cases z)
   ·rw[aaO,XF]
    exact k5
 ·rintro Z H2 ⟨v6,v7,vu,u,as,acc,rfl,s3,k1,k2,k3,k4,k5⟩
  rw[show(gw texts).length=texts.length by simp,aci] at k5
  rw[show tR x kn texts.length acc.length u []=[] from rfl,aaM] at k5
  rw[k5] at k2
  exact⟨_,rfl,q l H2 (s1.trans s3) XI ⟨as,k1,k2⟩⟩
theorem Hj{row:List Ln}{q:Nat×Nat}:∀{xs:List (Nat×Nat)},q.2∉xs.map (·.2)->∀s,mW row (xs++[q]) s=if q.2=s then(row[q.1]?).map (·.nm) else mW row xs s
 | [],_,s=>rfl
 | x::r,h,s=>by
  rw[aat] at h
  have h1:q.2≠x.2:=λz=>h (by rw[z];exact aap)
  have h2:q.2∉r.map (·.2):=λz=>h (aaa _ z)
  show(if x.2=s then _ else mW row (r++[q]) s)=if q.2=s then _ else(if x.2=s then _ else mW row r s)
  by_cases e:x.2=s
  ·rw[aan e,aac (λz=>h1 (by rw[z,e])),aan e]
  ·rw[aac e,aac e,Hj h2 s]
theorem II{row:List Ln}{q:Nat×Nat}{l:Ln}(xs:List (Nat×Nat))(h:row[q.1]?=some l):uD row (xs++[q])=uD row xs++[l.nm]:=by
 unfold uD
 rw[abO,abt,h]
 rfl
theorem KR(T:Txt mg)(O:Ok K mg A):il P w K mg base mD 3 A.Kv A.Kw ["old","new"] Kp.Z0:=
 Kp.MS O.kept.f ⟨T.jC,T.kE,T.Sr⟩ O.sD.f O.sD.b O.sD.m O.uL.f O.uL.b O.uL.m O.uM.f O.uM.b O.uM.m
def SN(A:Ad):Sp:=λvs H Q _=>∃(x f:Str)(r t:Addr)(row:List Ln)(texts:List Str),vs=[.str x,.str f,.ref r,.ref t]/\qO A H r row/\H t=some (.lst (gw texts))/\row.length<=1000/\texts.length<=1000/\
 ∀p H',gs H H'->H p=none->oA A H' p (mG x f row texts)->Q (.ref p) H'
theorem we(T:Txt mg)(O:Ok K mg A):il P w K mg base mD 4 A.qd A.qf ["patch","file","row","texts"] (SN A):=by
 have QO:=@KR P w K mg base A T O
 have Fo:=@Dc P w K mg base A T O
 have j3:=@pC P w K mg base A T O
 refine O.sJ.f.q_ iL λjt A0 outer s H vs Q E hr h=>?_
 obtain⟨x,f,r,t,row,texts,rfl,Bs,ht,hn,hm,q⟩:=h
 obtain⟨as,xF,Ce⟩:=id Bs
 have hlen:=aak Ce
 have sz:sizeLine=16777216:=aaw
 refine⟨_,(de (k8 4 iL nU)
   (de (mS (i:=5) iL.nd rfl (Or.inr rfl) mB)
   (de (ix aar rfl (iq (oM O.kept QO hr (a_ (xT ml (gr j0).names [9] rfl (iq (pv 2)) rfl (by decide+kernel) (λ_ _ _ _=>(iK (i:=9) iL.nd rfl (Or.inl rfl))) (λ_ _ _ _=>nV) (λ_ _ _ _=>CD (gK (pv 9) rfl))) (a_ (pv 3) d_)))) (Ju rfl (u_ (rF 6 iL) (u_ (rF 7 iL) GU))) (de (jB (by exact iZ hr) (pv 4) (pv 7) (gK (lC (pv 2) (pv 6)) rfl) rfl)
   (f_ (jB (by exact iZ hr) (pv 5) (gK (lC (pv 2) (pv 6)) rfl) kG rfl))))
   (de (Cw (j:=8) ml (gr j0).names [9] iL.nd rfl rfl rfl (iq (pv 2)) rfl (by decide+kernel) (λ_ _ _ _=>(iK (i:=9) iL.nd rfl (Or.inl rfl))) (λ_ _ _ _=>⟨_,qr (jv (lu (by exact iZ hr) (gK (pv 9) rfl) (pv 5))),by(try simp only [lH]);rfl⟩) (λ_ _ _ _=>CD (gK (pv 9) rfl)))
   (f_ (gZ (vp O.C0 j3 (hr.mono (by decide)) (by rfl) O.C1 O.lU.b .nil pR (a_ (pv 0) (a_ (pv 1) (a_ (oM O.BR Fo hr (a_ (pv 0) (a_ (pv 3) (a_ (pv 4) d_)))) (a_ (pv 8) (a_ uv d_)))))))))))),?_⟩
 refine Q8 ?_;intro _ _ _ _
 intro k Rz g VP
 have Yq:k≠g:=λz=>by rw[<-z,b_] at VP;cases VP
 have hgH:H g=none:=(gs.refl H |>.new (o:=.dK []) Rz).free VP
 have s1:gs H (upd (upd H k (.dK [])) g (.dT [])):=((gs.refl H).new Rz).new VP
 have Us:(upd (upd H k (.dK [])) g (.dT [])) k=some (.dK []):=by rw[e_ Yq];exact b_
 have LR:(upd (upd H k (.dK [])) g (.dT [])) g=some (.dT []):=b_
 generalize upd (upd H k (.dK [])) g (.dT [])=H1 at s1 Us LR
 have Ny:(as.map V.ref).length<=sizeLine:=by rw[Ob,hlen];omega
 let Jv:=λ(i:Nat) (ys:List V) (Z:St) (H4:Hp)=>∃(v9:Option V),Z=[rs x,rs f,rr r,rr t,rr k,rr g,none,none,none,v9]/\H4=H1/\ys=gw ((row.take i).map (·.tx))
 refine⟨_,rfl,r,rfl,⟨_,gO.of (s1 _ _ xF)⟩,kR (K:=K) (a:=r) (xs:=as.map V.ref) Ny Jv
  ⟨none,rfl,rfl,rfl⟩ (by rintro _ _ _ _ _ ⟨_,_,e,e2⟩;subst e e2;exact⟨gO.of (s1 _ _ xF),by rw[Ob,Ob,aaC];omega⟩) ?_ ?_⟩
 ·rintro i v ys Z H4 hx ⟨v9,rfl,rfl,rfl⟩
  obtain⟨b,hb,rfl⟩:=j9 hx
  obtain⟨ln,wz,dx,vn,vu,vl,k1,k2,k3,k4⟩:=ik Ce hb
  refine⟨_,rfl,b,A.gW,dx,_,_,rfl,s1 _ _ k1,O.iR,O.jO,An,_,rfl,rfl,?_⟩
  rw[take_snoc wz,aau,ju]
  rfl
 ·rintro ys Z H4 ⟨v9,rfl,rfl,rfl⟩ o VQ
  rw[Ob,hlen,aaq]
  have s2:gs H4 (upd H4 o (.lst (gw (row.map (·.tx))))):=(gs.refl H4).new VQ
  refine⟨_,rfl,row.map (·.tx),texts,o,t,rfl,b_,s2 _ _ (s1 _ _ ht),by rw[Ob];exact hn,hm,λpr H5 ps s5 Jl Ut QP=>?_⟩
  have Uu:gs H4 H5:=s2.trans s5
  have s05:gs H H5:=s1.trans Uu
  have rise:=tG (row.map (·.tx)) texts
  rw[Ob] at rise
  have Yr:(K01.kept (row.map (·.tx)) texts).length<=1000:=by
   rw[K01.xU]
   have:=K01.Ez (row.map (·.tx)) texts
   rw[Ob] at this
   omega
  generalize hqs:K01.kept (row.map (·.tx)) texts=qs at QP rise Yr
  have Og:=aak QP
  let Jv:=λ(i:Nat) (Z:St) (H6:Hp)=>∃(v6 v7:Option V)(kk:List (Key×V))(kg:List (List Key×V)),Z=[rs x,rs f,rr r,rr t,rr k,rr g,v6,v7,none,none]/\(∀b o,H5 b=some o->b≠k->b≠g->H6 b=some o)/\H6 k=some (.dK kk)/\kk.length<=i/\(∀s:Nat,match mW row (qs.take i) s with|some m=>∃v,iT kk (Sum.inl (s:Int))=some v/\lD H v m|none=>iT kk (Sum.inl (s:Int))=none)/\H6 g=some (.dT kg)/\kg.length<=i/\Rb kg (uD row (qs.take i))
  refine⟨pr,rfl,⟨_,gO.of Ut⟩,iV (K:=K) (a:=pr) (xs:=ps) Jv
   ⟨none,none,[],[],rfl,λb o e _ _=>e,Uu _ _ Us,WR _,(λs=>by rw[aby];exact rfl),Uu _ _ LR,WR _,(λn=>rfl)⟩ (by rintro _ _ _ _ ⟨_,_,_,_,_,e,_⟩;exact gO.of (e _ _ Ut (λz=>by rw[z] at Jl;rw[s2 _ _ Us] at Jl;cases Jl) (λz=>by rw[z] at Jl;rw[s2 _ _ LR] at Jl;cases Jl))) ?_ ?_⟩
  ·rintro i v Z H6 hx ⟨v6,v7,kk,kg,rfl,e1,e2,e3,e4,e5,e6,e7⟩
   obtain⟨qq,hq,pt,rfl,LX⟩:=iY QP hx
   have Ys:H5 k=some (.dK []):=Uu _ _ Us
   have Yt:H5 g=some (.dT []):=Uu _ _ LR
   have hi:i<qs.length:=(List.getElem?_eq_some_iff.mp hq).1
   obtain⟨Up,QI⟩:=rise.2 qq (WW hq)
   obtain⟨b,VM,ln0⟩:=Ar Ce (TH Up)
   have DV:row[qq.1]?=some row[qq.1]:=TH Up
   generalize row[qq.1]=ln at ln0 DV
   obtain⟨dx,vn,vu,vl,z1,⟨nt,rfl,z2⟩,z3,z4⟩:=ln0
   have up:∀{b o},H b=some o->H6 b=some o:=λ{b o} e=>e1 b o (s05 _ _ e) (λz=>by rw[z,Rz] at e;cases e) (λz=>by rw[z,hgH] at e;cases e)
   refine⟨pt,_,rfl,pf.of (e1 _ _ LX (i9 LX Ys (λz=>by cases z)) (i9 LX Yt (λz=>by cases z))),rfl,_,_,rfl,_,_,rfl,rfl,?_⟩
   refine⟨_,rfl,_,rfl,r,_,_,_,rfl,rfl,gO.of (up xF),gJ rfl VM,b,A.gW,dx,_,_,rfl,up z1,O.iR,O.gT,i6,_,rfl,_,rfl,k,_,rfl,nN.k (k:=Sum.inl (qq.2:Int)) e2 (by omega),?_⟩
   have Yu:∀{b o},H b=some o->upd H6 k (.dK (putK kk (Sum.inl (qq.2:Int)) (V.ref nt))) b=some o:=λ{b o} e=>by rw[e_ (λz=>by rw[z,Rz] at e;cases e)];exact up e
   have XD:=jr kk (Sum.inl (qq.2:Int):Key) (V.ref nt)
   have HH:=jr kg (nk ln.nm) (V.bl true)
   refine⟨_,rfl,_,rfl,_,rfl,r,_,_,_,rfl,rfl,gO.of (Yu xF),gJ rfl VM,b,A.gW,dx,_,_,rfl,Yu z1,O.iR,O.gT,i6,g,_,rfl,nN.t (k:=nk ln.nm) (by rw[e_ Yq.symm];exact e5) (Yu z2) (by omega),?_⟩
   have NA:qq.2∉(qs.take i).map (·.2):=λz=>by
    obtain⟨w1,hw1,ew⟩:=aaA.mp z
    obtain⟨j,hj⟩:=aaG.mp hw1
    have Jk:j<i:=by have:=(List.getElem?_eq_some_iff.mp hj).1;rw[aaC] at this;omega
    rw[abN,aan Jk] at hj
    obtain⟨hj1,hj2⟩:=List.getElem?_eq_some_iff.mp hj
    have:=abh.mp rise.1 j i hj1 hi Jk
    rw[hj2,(List.getElem?_eq_some_iff.mp hq).2] at this
    omega
   refine⟨_,_,_,_,rfl,λb o e nk ng=>?_,by rw[e_ Yq];exact b_,by omega,λs=>?_,b_,by omega,?_⟩
   ·rw[e_ ng,e_ nk];exact e1 b o e nk ng
   ·rw[take_snoc hq,Hj NA,kc]
    by_cases es:qq.2=s
    ·subst es
     rw[aan rfl,aan rfl,DV]
     exact⟨_,rfl,nt,rfl,z2⟩
    ·rw[aac es,aac (λz=>es (by have:=Sum.inl.inj z;omega))]
     exact e4 s
   ·rw[take_snoc hq,II _ DV]
    exact e7.put ln.nm _
  ·rintro Z H6 ⟨v6,v7,kk,kg,rfl,e1,e2,e3,e4,e5,e6,e7⟩
   rw[<-Og,aaq] at e4 e7
   have up:∀{b o},H b=some o->H6 b=some o:=λ{b o} e=>e1 b o (s05 _ _ e) (λz=>by rw[z,Rz] at e;cases e) (λz=>by rw[z,hgH] at e;cases e)
   have Yv:gs H H6:=λb o e=>up e
   refine⟨_,rfl,r,rfl,⟨_,gO.of (up xF)⟩,kR (K:=K) (a:=r) (xs:=as.map V.ref) Ny (λi ys Z H4=>∃(v9:Option V),Z=[rs x,rs f,rr r,rr t,rr k,rr g,v6,v7,none,v9]/\H4=H6/\ys.length<=i/\Paired (lD H) ys (((row.take i).filter λl=>l.nm∉uD row qs).map (·.nm)))
    ⟨none,rfl,rfl,WR _,.nil⟩ (by rintro _ _ _ _ _ ⟨_,_,e,e20,_⟩;rw[e];exact⟨gO.of (up xF),e20⟩) ?_ ?_⟩
   ·rintro i v ys Z H7 hx ⟨v9,rfl,rfl,e8,e9⟩
    obtain⟨b,hb,rfl⟩:=j9 hx
    obtain⟨ln,wz,dx,vn,vu,vl,k1,⟨nt,rfl,k2⟩,k3,k4⟩:=ik Ce hb
    refine⟨_,rfl,b,A.gW,dx,_,_,rfl,up k1,O.iR,O.gT,i6,_,rfl,g,_,rfl,ja.t (k:=nk ln.nm) e5 (up k2),_,rfl,?_⟩
    rw[e7 ln.nm,take_snoc wz,aaH,aau]
    by_cases wy:ln.nm∈uD row qs
    ·rw[WV wy]
     refine jD ⟨_,rfl,rfl,by omega,?_⟩
     rw[aab (by simpa using wy),aa2,List.map_nil,aaM]
     exact e9
    ·rw[ZW wy]
     refine lX ⟨_,rfl,b,A.gW,dx,_,_,rfl,up k1,O.iR,O.gT,i6,_,rfl,rfl,NU,?_⟩
     rw[ZT (by simpa using wy),aa2]
     exact iz e9 ⟨nt,rfl,k2⟩
   ·rintro ys Z H7 ⟨v9,rfl,rfl,e8,e9⟩ c Uv
    rw[Ob,hlen,aaq] at e9
    have s8:=Yv.new (o:=.lst ys) Uv
    have Yd:c≠k:=λz=>by rw[z,e2] at Uv;cases Uv
    refine⟨_,rfl,_,rfl,_,rfl,_,rfl,_,rfl,x,t,k,texts,mW row qs,rfl,gO.of (s8 _ _ ht),λH' s'=>gO.of (s' _ _ (s8 _ _ ht)),⟨kk,by rw[e_ Yd.symm];exact e2,λs=>?_⟩,by omega,λpu H9 s9 hpu0 Yw=>?_⟩
    ·have:=e4 s
     cases ek:mW row qs s with
     | none=>rw[ek] at this;exact this
     | some m=>rw[ek] at this;obtain⟨v,w1,w2⟩:=this;exact⟨v,w1,w2.same s8⟩
    ·refine⟨_,rfl,?_⟩
     intro o dx no QM Yp
     refine⟨o,dx,_,_,_,_,_,rfl,b_,λRA r6 r7=>⟨rfl,?_⟩⟩
     have GH:gs H9 RA:=λc u ec=>by
      rw[r6 c (gv ec no),e_ (gv ec no),e_ (gv ec QM)]
      exact ec
     have Uw:=(s8.trans s9).trans GH
     refine q o RA Uw ((s8.trans s9).free no) ?_
     unfold mG
     rw[hqs]
     exact⟨dx,_,pu,c,.jg,r7,rfl,Yw.same GH,⟨ys,GH _ _ (s9 _ _ b_),Paired.jh e9 λ_ _ z=>z.same Uw⟩,rfl⟩
def l7:Str:=Str.ofString "abcdefghijklmnopqrstuvwxyz0123456789"
def Good(x:Str):Prop:=1<=x.length/\x.length<=12/\∀c∈x.cps.toList,c∈l7.cps.toList
def kW(x:Str):Prop:=(reprText x).length<=1048576/\x.length<=1000
abbrev sk(x:Str):Key:=Sum.inr x
theorem Av{x:Str}{l:List Str}:sk x∈l.map sk↔x∈l:=by
 constructor
 ·intro h
  obtain⟨m,hm,e⟩:=aaA.mp h
  rw[<-ack e];exact hm
 ·exact λh=>YO h
theorem ko{dk:List (Key×V)}{l:List Str}(h:dk.map (·.1)=l.map sk):dk.length=l.length:=by
 have:=aaQ List.length h
 rwa [Ob,Ob] at this
theorem xq{dk:List (Key×V)}{l:List Str}(h:dk.map (·.1)=l.map sk){i:Nat}{k:Key}{v:V}(hi:dk[i]?=some (k,v)):∃x,l[i]?=some x/\k=sk x:=by
 have h1:(dk.map (·.1))[i]?=some k:=by rw[aam,hi];rfl
 rw[h,aam] at h1
 obtain⟨n,e,e2⟩:=Option.map_eq_some_iff.mp h1
 exact⟨n,e,e2.symm⟩
theorem kq{dk:List (Key×V)}{l:List Str}(h:dk.map (·.1)=l.map sk)(x:Str):(iT dk (sk x)).isSome=decide (x∈l):=by
 by_cases m:x∈l
 ·rw[WV m];exact tM.mpr (by rw[h];exact Av.mpr m)
 ·rw[ZW m,abG];exact λz=>m (Av.mp (by rw[<-h];exact tM.mp z))
theorem qj{dk:List (Key×V)}{l:List Str}(h:dk.map (·.1)=l.map sk){x:Str}(hx:x∉l)(v:V):(putK dk (sk x) v).map (·.1)=(l++[x]).map sk:=by
 rw[qi,h,aac (λz=>hx (Av.mp z)),aau];rfl
def A1(m n h:Addr):List (Str×V):=[("made",.ref m),("needs",.ref n),("held",.ref h)]
theorem PL(m n h:Addr):jG "held" (.ref h) (jG "needs" (.ref n) (jG "made" (.ref m) []))=A1 m n h:=by kernel_rfl
theorem lg(m n h:Addr):(A1 m n h).lookup ("held":Str)=some (V.ref h):=by kernel_rfl
theorem ql(m n h:Addr):(A1 m n h).lookup ("made":Str)=some (V.ref m):=by kernel_rfl
theorem tN(m n h:Addr):(A1 m n h).lookup ("needs":Str)=some (V.ref n):=by kernel_rfl
structure Dp where
 dx:Addr
 m:Addr
 n:Addr
 h:Addr
 ha:Str->Addr
 kM:List (Key×V)
 kN:List (Key×V)
 kH:List (Key×V)
structure NX(A:Ad)(H:Hp)(d:Addr)(D:Dk)(W:Addr->Prop)(U:Dp):Prop where
 hd:H d=some (.ins A.gB U.dx (A1 U.m U.n U.h))
 hm:H U.m=some (.dK U.kM)
 hn:H U.n=some (.dK U.kN)
 hh:H U.h=some (.dK U.kH)
 mn:U.m≠U.n
 mh:U.m≠U.h
 nh:U.n≠U.h
 wm:W U.m
 wn:W U.n
 wh:W U.h
 km:U.kM.map (·.1)=D.names.map sk
 vm:∀p∈D.made,∃a,iT U.kM (sk p.nm)=some (.ref a)/\oA A H a p
 kn:U.kN.map (·.1)=D.names.map sk
 vn:∀x∈D.names,∃(a:Addr)(kv:List (Key×V))(l:List Str),iT U.kN (sk x)=some (.ref a)/\¬W a/\H a=some (.dK kv)/\kv.map (·.1)=l.map sk/\l.Nodup/\∀y,y∈l↔y∈D.iD x
 kh:U.kH.map (·.1)=D.stores.map sk
 vh:∀s∈D.stores,iT U.kH (sk s)=some (.ref (U.ha s))/\W (U.ha s)/\U.ha s≠U.m/\U.ha s≠U.n/\U.ha s≠U.h/\∃kv:List (Key×V),H (U.ha s)=some (.dK kv)/\kv.map (·.1)=(D.held s).map sk
 inj:∀s∈D.stores,∀t∈D.stores,U.ha s=U.ha t->s=t
 dk:∀b,W b->∃kv,H b=some (.dK kv)
def ip(A:Ad)(H:Hp)(d:Addr)(D:Dk)(W:Addr->Prop):Prop:=∃U,NX A H d D W U
theorem NX.same{A:Ad}{H H':Hp}{d:Addr}{D:Dk}{W:Addr->Prop}{U:Dp}(x:NX A H d D W U)(s:gs H H'):NX A H' d D W U where
 hd:=s _ _ x.hd
 hm:=s _ _ x.hm
 hn:=s _ _ x.hn
 hh:=s _ _ x.hh
 mn:=x.mn
 mh:=x.mh
 nh:=x.nh
 wm:=x.wm
 wn:=x.wn
 wh:=x.wh
 km:=x.km
 vm:=λp hp=>by obtain⟨a,h1,h2⟩:=x.vm p hp;exact⟨a,h1,h2.same s⟩
 kn:=x.kn
 vn:=λy hy=>by obtain⟨a,kv,l,h1,h2,h3,h4⟩:=x.vn y hy;exact⟨a,kv,l,h1,h2,s _ _ h3,h4⟩
 kh:=x.kh
 vh:=λt ht=>by obtain⟨h1,h2,h3,h4,h5,kv,h6,h7⟩:=x.vh t ht;exact⟨h1,h2,h3,h4,h5,kv,s _ _ h6,h7⟩
 inj:=x.inj
 dk:=λb hb=>by obtain⟨kv,h⟩:=x.dk b hb;exact⟨kv,s _ _ h⟩
theorem ip.same{A:Ad}{H H':Hp}{d:Addr}{D:Dk}{W:Addr->Prop}(x:ip A H d D W)(s:gs H H'):ip A H' d D W:=by
 obtain⟨U,x⟩:=x
 exact⟨U,x.same s⟩
def o6(W:Addr->Prop)(H H':Hp):Prop:=∀b o,H b=some o->¬W b->H' b=some o
theorem o6.of{W:Addr->Prop}{H H':Hp}(s:gs H H'):o6 W H H':=λb o e _=>s b o e
theorem ip.lst{A:Ad}{H:Hp}{d a:Addr}{D:Dk}{W:Addr->Prop}{xs:List V}(x:ip A H d D W)(h:H a=some (.lst xs)):¬W a:=λz=>by
 obtain⟨U,x⟩:=x
 obtain⟨kv,e⟩:=x.dk a z
 rw[h] at e;cases e
theorem ip.tup{A:Ad}{H:Hp}{d a:Addr}{D:Dk}{W:Addr->Prop}{xs:List V}(x:ip A H d D W)(h:H a=some (.tup xs)):¬W a:=λz=>by
 obtain⟨U,x⟩:=x
 obtain⟨kv,e⟩:=x.dk a z
 rw[h] at e;cases e
theorem ip.jg{A:Ad}{H:Hp}{d a:Addr}{D:Dk}{W:Addr->Prop}(x:ip A H d D W)(h:H a=none):¬W a:=λz=>by
 obtain⟨U,x⟩:=x
 obtain⟨kv,e⟩:=x.dk a z
 rw[h] at e;cases e
theorem jz{m n h:Addr}:(A1 m n h).lookup ("check_store":Str)=none:=by kernel_rfl
theorem qQ{m n h:Addr}:(A1 m n h).lookup ("check_new":Str)=none:=by kernel_rfl
theorem pE{m n h:Addr}:(A1 m n h).lookup ("check_held":Str)=none:=by kernel_rfl
theorem Bh{m n h:Addr}:(A1 m n h).lookup ("check_made":Str)=none:=by kernel_rfl
theorem Dd{m n h:Addr}:(A1 m n h).lookup ("keep":Str)=none:=by kernel_rfl
theorem qR{m n h:Addr}:(A1 m n h).lookup ("has":Str)=none:=by kernel_rfl
theorem Bi{m n h:Addr}:(A1 m n h).lookup ("patches_of":Str)=none:=by kernel_rfl
theorem o7{m n h:Addr}:(A1 m n h).lookup ("sight_of":Str)=none:=by kernel_rfl
theorem KS{m n h:Addr}:(A1 m n h).lookup ("row":Str)=none:=by kernel_rfl
theorem yE{m n h:Addr}:(A1 m n h).lookup ("quarrels":Str)=none:=by kernel_rfl
theorem KU{m n h:Addr}:(A1 m n h).lookup ("leans":Str)=none:=by kernel_rfl
theorem KW{m n h:Addr}:(A1 m n h).lookup ("begin":Str)=none:=by kernel_rfl
theorem IJ{m n h:Addr}:(A1 m n h).lookup ("record":Str)=none:=by kernel_rfl
theorem PN{m n h:Addr}:(A1 m n h).lookup ("cut":Str)=none:=by kernel_rfl
theorem MV{m n h:Addr}:(A1 m n h).lookup ("back":Str)=none:=by kernel_rfl
theorem Hl{m n h:Addr}:(A1 m n h).lookup ("take":Str)=none:=by kernel_rfl
theorem MW{m n h:Addr}:(A1 m n h).lookup ("drop":Str)=none:=by kernel_rfl
def Ve:Dk:=⟨[],λ_=>[],[],λ_=>[]⟩
theorem W9:Inv Ve:=⟨aa9,(λp hp=>by cases hp),(λp hp=>by cases hp),⟨λ_=>0,λp hp=>by cases hp⟩,(λi p hp=>by simp[Ve] at hp),(λx hx=>by cases hx),aa9,(λs hs=>by cases hs),(λs hs=>by cases hs),(λp hp=>by cases hp),(λp hp=>by cases hp)⟩
def PQ(A:Ad):Sp:=λvs H Q _=>∃(p dx:Addr),vs=[.ref p]/\H p=some (.ins A.gB dx [])/\∀(H':Hp)(W:Addr->Prop),ip A H' p Ve W->(∀b,W b->H b=none)->(∀b o,H b=some o->b≠p->H' b=some o)->Q .jg H'
theorem De(T:Txt mg)(O:Ok K mg A):il P w K mg base mD 1 A.nq A.rh ["self"] (PQ A):=by
 refine O.uo.f.q_ xh λjt A0 outer s H vs Q E hr h=>?_
 obtain⟨p,dx,rfl,hp,k⟩:=h
 refine⟨_,(de (lE (pv 0) nU rfl)
   (de (lE (pv 0) nU rfl)
   (f_ (lE (pv 0) nU rfl)))),?_⟩
 refine Ep ?_;intro _ _
 intro m hm
 have GI:p≠m:=gv hp hm
 refine⟨_,rfl,p,A.gB,dx,_,rfl,(by rw[e_ GI];exact hp),O.gP,O.i5,(by show 0<1000;decide),?_⟩
 intro n hn
 have Ux:p≠n:=gv b_ hn
 have VR:m≠n:=by
  intro z;subst z;rw[e_ GI.symm,b_] at hn;cases hn
 have hH:H n=none:=by rw[e_ Ux.symm,e_ VR.symm] at hn;exact hn
 refine⟨_,rfl,p,A.gB,dx,_,rfl,(by rw[e_ Ux];exact b_),O.gP,O.je,(by show 1<1000;decide),?_⟩
 intro h hh
 have VS:p≠h:=gv b_ hh
 have Yx:n≠h:=by
  intro z;subst z;rw[e_ Ux.symm,b_] at hh;cases hh
 have Yy:m≠h:=by
  intro z;subst z;rw[e_ GI.symm,e_ VR,e_ GI.symm,b_] at hh;cases hh
 have hhH:H h=none:=by rw[e_ VS.symm,e_ Yx.symm,e_ VS.symm,e_ Yy.symm] at hh;exact hh
 refine⟨_,rfl,p,A.gB,dx,_,rfl,(by rw[e_ VS];exact b_),O.gP,O.iB,(by show 2<1000;decide),?_⟩
 have e1:∀{o},upd (upd (upd (upd (upd (upd H m (.dK [])) p (.ins A.gB dx (jG "made" (.ref m) []))) n (.dK [])) p (.ins A.gB dx (jG "needs" (.ref n) (jG "made" (.ref m) [])))) h (.dK [])) p o m=some (.dK []):=by
  intro o;rw[e_ GI.symm,e_ Yy,e_ GI.symm,e_ VR,e_ GI.symm,b_]
 have e2:∀{o},upd (upd (upd (upd (upd (upd H m (.dK [])) p (.ins A.gB dx (jG "made" (.ref m) []))) n (.dK [])) p (.ins A.gB dx (jG "needs" (.ref n) (jG "made" (.ref m) [])))) h (.dK [])) p o n=some (.dK []):=by
  intro o;rw[e_ Ux.symm,e_ Yx,e_ Ux.symm,b_]
 have e3:∀{o},upd (upd (upd (upd (upd (upd H m (.dK [])) p (.ins A.gB dx (jG "made" (.ref m) []))) n (.dK [])) p (.ins A.gB dx (jG "needs" (.ref n) (jG "made" (.ref m) [])))) h (.dK [])) p o h=some (.dK []):=by
  intro o;rw[e_ VS.symm,b_]
 refine k _ (λb=>b=m\/b=n\/b=h) ⟨⟨dx,m,n,h,λ_=>0,[],[],[]⟩,Eq.trans b_ (aaQ (λl=>some (HO.ins A.gB dx l)) (PL m n h)),e1,e2,e3,VR,Yy,Yx,.inl rfl,.inr (.inl rfl),.inr (.inr rfl),rfl,(λp hp=>by cases hp),rfl,(λp hp=>by cases hp),rfl,(λp hp=>by cases hp),(λp hp=>by cases hp),λb hb=>?_⟩ (λb hb=>?_) λb o e hb=>?_
 ·rcases hb with rfl|rfl|rfl
  ·exact⟨_,e1⟩
  ·exact⟨_,e2⟩
  ·exact⟨_,e3⟩
 ·rcases hb with rfl|rfl|rfl
  ·exact hm
  ·exact hH
  ·exact hhH
 ·rw[e_ hb,e_ (gv e hhH),e_ hb,e_ (gv e hH),e_ hb,e_ (gv e hm)]
  exact e
def MX(XB:Addr):Sp:=λvs H Q E=>∃x:Str,vs=[.str x]/\kW x/\(Good x->Q .jg H)/\(¬Good x->E (.ref XB) none H)
theorem NY:(12:Int).natAbs.log2<1920:=by decide
theorem ur(T:Txt mg)(O:Ok K mg A):il P w K mg base (tX P w) 1 A.vQ A.vR ["name"] (MX A.jF):=by
 refine O.uN.f.rE t_ λjt A0 outer s H vs Q E hr h=>?_
 obtain⟨x,rfl,⟨hf,hl⟩,q,qe⟩:=h
 refine⟨_,(de (iC (ku (D9 Jz Jz gq (gM vt (by rfl) T.jC aav (a_ (pv 0) d_)) (Ci (v:=.int 12) (by rfl) O.sL ⟨_,rfl⟩))) (f_ (ke bx O.BZ (by rfl) (lI (iw i_ (iw (J4 (Ci (v:=.int 12) (by rfl) O.sL ⟨_,rfl⟩)) (iw i_ (iw (mU (pv 0)) nX))))))) g_)
   (f_ (ix JV rfl (O6 (pv 0)) (rF 1 t_) (f_ (iC (ij Cm (pv 1) (Ci (v:=.str (Str.ofString "abcdefghijklmnopqrstuvwxyz0123456789")) (by rfl) O.C2 ⟨_,rfl⟩) rfl) (f_ (ke bx O.BZ (by rfl) (lI (iw i_ (iw (mU (pv 0)) nX))))) g_))))),?_⟩
 refine JT ?_;intro _
 have hz:x.length<=sizeLine:=aai hl (by decide)
 have bad:¬Good x->∀H',H'=H->E (.ref A.jF) none H':=λg H' e=>by subst e;exact qe g
 refine⟨_,rfl,_,rfl,hz,_,_,rfl,rfl,_,rfl,?_⟩
 refine kF (λh1=>?_) (λh1=>?_)
 ·refine⟨_,_,rfl,rfl,_,rfl,?_⟩
  refine kF (λh2=>?_) (λh2=>?_)
  ·
   have h2:¬((x.length:Int)<=12):=by simpa using h2
   refine⟨_,rfl,by decide+kernel,⟨_,rfl,NY,_,rfl,by decide+kernel,⟨_,rfl,by decide+kernel,⟨_,rfl,_,rfl,hf,_,rfl,hf,λ_=>qe λg=>?_⟩⟩⟩⟩
   have:=g.2.1;omega
  ·have h1:(1:Int)<=(x.length:Int):=by simpa using h1
   have h2:(x.length:Int)<=12:=by simpa using h2
   refine⟨_,rfl,x,rfl,J3 (λi Z H2=>∃v,Z=[rs x,v]/\H2=H/\∀j<i,∀c,x.cps[j]?=some c->c∈l7.cps.toList) ⟨none,rfl,rfl,λj hj=>absurd hj (by omega)⟩ ?_ ?_⟩
   ·rintro i c Z H2 hc ⟨v,rfl,rfl,hp⟩
    refine⟨_,rfl,_,_,rfl,rfl,_,rfl,?_⟩
    rw[Mt]
    refine kF (λh3=>?_) (λh3=>?_)
    ·have h3:c∉l7.cps.toList:=by simpa[l7] using h3
     refine⟨_,rfl,by decide+kernel,⟨_,rfl,_,rfl,hf,_,rfl,hf,λ_=>qe λg=>?_⟩⟩
     exact h3 (g.2.2 c (WW (i:=i) (by rw[aa7];exact hc)))
    ·have h3:c∈l7.cps.toList:=by simpa[l7] using h3
     refine⟨_,rfl,rfl,λj hj c' Bo=>?_⟩
     by_cases e:j=i
     ·subst e;rw[hc] at Bo;cases Bo;exact h3
     ·exact hp j (by omega) c' Bo
   ·rintro Z H2 ⟨v,rfl,rfl,hp⟩
    refine q ⟨by omega,by omega,λc hc=>?_⟩
    obtain⟨j,hj,e⟩:=List.mem_iff_getElem.mp hc
    have hj':j<x.cps.size:=by simpa using hj
    exact hp j hj' c (by rw[aaY hj'];simpa using e)
 ·have h1:¬((1:Int)<=(x.length:Int)):=by simpa using h1
  refine⟨_,rfl,?_⟩
  refine⟨_,rfl,by decide+kernel,⟨_,rfl,NY,_,rfl,by decide+kernel,⟨_,rfl,by decide+kernel,⟨_,rfl,_,rfl,hf,_,rfl,hf,λ_=>qe λg=>?_⟩⟩⟩⟩
  have:=g.1;omega
def MY(A:Ad):Sp:=λvs H Q E=>∃(d:Addr)(D:Dk)(W:Addr->Prop)(s:Str),vs=[.ref d,.str s]/\ip A H d D W/\kW s/\(s∈D.stores->Q .jg H)/\(s∉D.stores->E (.ref A.iW) none H)
theorem j2(T:Txt mg)(O:Ok K mg A):il P w K mg base (tX P w) 1 A.om A.oq ["self","store"] (MY A):=by
 refine O.iX.f.rE tT λjt A0 outer s H vs Q E hr h=>?_
 obtain⟨d,D,W,st,rfl,⟨U,x⟩,hf,q,qe⟩:=h
 refine⟨_,(f_ (iC (jv (lu (by exact iZ hr) (pv 1) (gK (pv 0) rfl))) (f_ (ke bx O.IB (by rfl) (lI (iw i_ (iw (mU (pv 1)) nX))))) g_)),?_⟩
 refine⟨_,rfl,_,rfl,d,A.gB,U.dx,_,_,rfl,x.hd,O.gP,O.iB,lg _ _ _,U.h,_,rfl,ja.k (k:=sk st) x.hh,_,rfl,?_⟩
 rw[kq x.kh]
 by_cases hs:st∈D.stores
 ·rw[WV hs]
  exact q hs
 ·rw[ZW hs]
  exact lX ⟨_,rfl,by decide+kernel,⟨_,rfl,_,rfl,hf.1,_,rfl,hf.1,λ_=>qe hs⟩⟩
def PR(A:Ad):Sp:=λvs H Q E=>∃(d:Addr)(D:Dk)(W:Addr->Prop)(s:Str),vs=[.ref d,.str s]/\ip A H d D W/\kW s/\(s∈D.names->Q .jg H)/\(s∉D.names->E (.ref A.j1) none H)
theorem Bj(T:Txt mg)(O:Ok K mg A):il P w K mg base (tX P w) 1 A.oW A.oX ["self","patch"] (PR A):=by
 refine O.rC.f.rE uG λjt A0 outer s H vs Q E hr h=>?_
 obtain⟨d,D,W,st,rfl,⟨U,x⟩,hf,q,qe⟩:=h
 refine⟨_,(f_ (iC (jv (lu (by exact iZ hr) (pv 1) (gK (pv 0) rfl))) (f_ (ke bx O.B0 (by rfl) (lI (iw i_ (iw (mU (pv 1)) nX))))) g_)),?_⟩
 refine⟨_,rfl,_,rfl,d,A.gB,U.dx,_,_,rfl,x.hd,O.gP,O.i5,ql _ _ _,U.m,_,rfl,ja.k (k:=sk st) x.hm,_,rfl,?_⟩
 rw[kq x.km]
 by_cases hs:st∈D.names
 ·rw[WV hs]
  exact q hs
 ·rw[ZW hs]
  exact lX ⟨_,rfl,by decide+kernel,⟨_,rfl,_,rfl,hf.1,_,rfl,hf.1,λ_=>qe hs⟩⟩
def PU(A:Ad):Sp:=λvs H Q E=>∃(d:Addr)(D:Dk)(W:Addr->Prop)(s x:Str),vs=[.ref d,.str s,.str x]/\ip A H d D W/\kW s/\kW x/\s∈D.stores/\(x∈D.held s->Q .jg H)/\(x∉D.held s->E (.ref A.j1) none H)
theorem pF(T:Txt mg)(O:Ok K mg A):il P w K mg base (tX P w) 1 A.oY A.oZ ["self","store","patch"] (PU A):=by
 refine O.lq.f.rE uH λjt A0 outer s H vs Q E hr h=>?_
 obtain⟨d,D,W,st,y,rfl,⟨U,x⟩,hf,GJ,hs,q,qe⟩:=h
 obtain⟨v1,_,_,_,_,kv,v2,v3⟩:=x.vh st hs
 refine⟨_,(f_ (iC (jv (lu (by exact iZ hr) (pv 2) (zJ hr (gK (pv 0) rfl) (pv 1)))) (f_ (ke bx O.B0 (by rfl) (lI (iw i_ (iw (mU (pv 1)) (iw i_ (iw (mU (pv 2)) nX))))))) g_)),?_⟩
 refine⟨_,rfl,_,rfl,d,A.gB,U.dx,_,_,rfl,x.hd,O.gP,O.iB,lg _ _ _,_,rfl,U.h,.ref (U.ha st),rfl,?_,U.ha st,_,rfl,ja.k (k:=sk y) v2,_,rfl,?_⟩
 ·have:=ja.k (k:=sk st) x.hh
  rw[v1] at this
  exact this
 ·rw[kq v3]
  by_cases hy:y∈D.held st
  ·rw[WV hy]
   exact q hy
  ·rw[ZW hy]
   refine lX ?_
   exact⟨_,rfl,by decide+kernel,⟨_,rfl,_,rfl,hf.1,_,rfl,hf.1,⟨_,rfl,by decide+kernel,⟨_,rfl,_,rfl,GJ.1,_,rfl,GJ.1,λ_=>qe hy⟩⟩⟩⟩
def ox(H:Hp)(v:V)(l:Ln):Prop:=∃t,v=.ref t/\H t=some (.tup [.str l.nm.1,.int l.nm.2,.str l.tx])
def nM(H:Hp)(a:Addr)(row:List Ln):Prop:=∃vs,H a=some (.lst vs)/\Paired (ox H) vs row
theorem ox.same{H H':Hp}{v:V}{l:Ln}(x:ox H v l)(s:gs H H'):ox H' v l:=by obtain⟨t,e,h⟩:=x;exact⟨t,e,s _ _ h⟩
theorem nM.same{H H':Hp}{a:Addr}{row:List Ln}(x:nM H a row)(s:gs H H'):nM H' a row:=by
 obtain⟨vs,h,p⟩:=x
 exact⟨vs,s _ _ h,Paired.jh p λ_ _ z=>z.same s⟩
def SO(A:Ad):Sp:=λvs H Q E=>∃(d:Addr)(D:Dk)(W:Addr->Prop)(s:Str),vs=[.ref d,.str s]/\ip A H d D W/\kW s/\xo D.made.length/\(s∉D.stores->E (.ref A.iW) none H)/\(s∈D.stores->∀p,H p=none->Q (.ref p) (upd H p (.lst (gw (D.has s)))))
theorem Gp(T:Txt mg)(O:Ok K mg A):il P w K mg base (tX P w) 2 A.z8 A.z_ ["self","store"] (SO A):=by
 have ig:=@j2 P w K mg base A T O
 refine O.k9.f.rE xW λjt A0 outer s H vs Q E hr h=>?_
 obtain⟨d,D,W,st,rfl,X,hf,jS,qe,q⟩:=h
 obtain⟨U,x⟩:=id X
 have yX:D.made.length<=4000:=jS
 have sz:sizeLine=16777216:=aaw
 refine⟨_,(de (h_ (zI bx (pv 0) O.gP O.iX ig hr (a_ (pv 1) d_)))
   (f_ (gZ (G7 (zy zS (gr qG).names [2] rfl (CB (gK (pv 0) rfl)) rfl (by decide+kernel) (λ_ _ _ _=>(iK (i:=2) xW.nd rfl (Or.inl rfl))) (λ_ _ _ _=>⟨_,qr (jv (ph (by exact iZ hr) (pv 2) (zJ hr (gK (pv 0) rfl) (pv 1)))),by(try simp only [lH]);rfl⟩) (λ_ _ _ _=>CD (pv 2))))))),?_⟩
 refine JT ?_;intro _
 refine⟨_,rfl,d,U.dx,_,rfl,x.hd,jz,_,rfl,d,D,W,st,rfl,X,hf,λhs=>?_,λhs=>qe hs⟩
 obtain⟨v1,_,qo,_,_,kv,v2,v3⟩:=x.vh st hs
 refine⟨_,rfl,d,A.gB,U.dx,_,_,rfl,x.hd,O.gP,O.i5,ql _ _ _,U.m,U.kM,rfl,x.hm,λo uz=>?_⟩
 have Jo:=ko x.km
 have QK:D.names.length=D.made.length:=by unfold Dk.names;rw[Ob]
 have RB:d≠U.m:=i9 x.hd x.hm (λz=>by cases z)
 have f:∀{b u},H b=some u->b≠U.m->upd H U.m (.nB o (.dK U.kM)) b=some u:=λ{b u} e n=>by rw[e_ n];exact e
 refine G8 (by omega) (λi ys Z H3=>∃(v2:Option V)(zs:List Str),Z=[rr d,rs st,v2]/\H3=upd H U.m (.nB o (.dK U.kM))/\ys=gw zs/\zs=(D.names.take i).filter λx=>x∈D.held st) ⟨none,[],rfl,rfl,rfl,rfl⟩ (λi ys Z H3 ⟨_,zs,_,e,e2,e3⟩=>?_) ?_ ?_
 ·rw[e,e2,e3]
  refine⟨b_,?_⟩
  rw[Ob]
  exact aai (aaN _ _) (by rw[aaC];omega)
 ·rintro i k v ys Z H3 hi ⟨v0,zs,rfl,rfl,rfl,e3⟩
  obtain⟨y,hy,rfl⟩:=xq x.km hi
  refine⟨_,rfl,_,rfl,d,A.gB,U.dx,_,_,rfl,f x.hd RB,O.gP,O.iB,lg _ _ _,_,rfl,U.h,.ref (U.ha st),rfl,?_,U.ha st,_,rfl,ja.k (k:=sk y) (f v2 qo),_,rfl,?_⟩
  ·have:=ja.k (k:=sk st) (f x.hh x.mh.symm)
   rw[v1] at this
   exact this
  ·rw[kq v3,take_snoc hy,aaH]
   by_cases hm:y∈D.held st
   ·rw[WV hm]
    refine lX ⟨_,rfl,_,_,rfl,rfl,ju _ _,?_⟩
    rw[e3,ZT (by simpa using hm),aa2]
   ·rw[ZW hm]
    refine jD ⟨_,_,rfl,rfl,rfl,?_⟩
    rw[e3,aab (by simpa using hm),aa2,aaM]
 ·rintro ys Z H3 ⟨v0,zs,rfl,rfl,rfl,e3⟩ p rH
  rw[Jo,aaq] at e3
  have GI:p≠U.m:=λz=>by rw[z,b_] at rH;cases rH
  have GF:H p=none:=by rw[e_ GI] at rH;exact rH
  refine⟨U.m,o,_,by rw[e_ GI.symm];exact b_,uz,?_⟩
  rw[CA x.hm GI]
  have:=q hs p GF
  unfold Dk.has at this
  rw[<-e3] at this
  exact this
def SQ(A:Ad):Sp:=λvs H Q E=>∃(d:Addr)(D:Dk)(W:Addr->Prop)(s:Str),vs=[.ref d,.str s]/\ip A H d D W/\kW s/\xo D.made.length/\(s∉D.stores->E (.ref A.iW) none H)/\(s∈D.stores->∀p H',gs H H'->H p=none->yU A H' p (D.pj s)->Q (.ref p) H')
theorem Bk(T:Txt mg)(O:Ok K mg A):il P w K mg base (tX P w) 3 A.oU A.oV ["self","store"] (SQ A):=by
 have jA:=@Gp P w K mg base A T O
 refine O.rB.f.rE oh λjt A0 outer s H vs Q E hr h=>?_
 obtain⟨d,D,W,st,rfl,X,hf,jS,qe,q⟩:=h
 obtain⟨U,x⟩:=id X
 have yX:D.made.length<=4000:=jS
 have sz:sizeLine=16777216:=aaw
 have qU:(D.pj st).length<=D.made.length:=aaN _ _
 refine⟨_,(f_ (gZ (xT oS (gr kB).names [2] rfl (iq (zI bx (pv 0) O.gP O.k9 jA hr (a_ (pv 1) d_))) rfl (by decide+kernel) (λ_ _ _ _=>(iK (i:=2) oh.nd rfl (Or.inl rfl))) (λ_ _ _ _=>nV) (λ_ _ _ _=>CD (zJ hr (gK (pv 0) rfl) (pv 2)))))),?_⟩
 refine⟨_,rfl,d,U.dx,_,rfl,x.hd,qR,_,rfl,d,D,W,st,rfl,X,hf,jS,λhs=>qe hs,λhs p rH=>?_⟩
 rw[Dk.He]
 have s1:gs H (upd H p (.lst (gw ((D.pj st).map (·.nm))))):=(gs.refl H).new rH
 have Lu:(upd H p (.lst (gw ((D.pj st).map (·.nm))))) p=some (.lst (gw ((D.pj st).map (·.nm)))):=b_
 generalize upd H p (.lst (gw ((D.pj st).map (·.nm))))=H1 at s1 Lu
 let Jv:=λ(i:Nat) (ys:List V) (Z:St) (H3:Hp)=>∃(v2:Option V)(as:List Addr),Z=[rr d,rs st,v2]/\H3=H1/\ys=as.map V.ref/\Paired (oA A H) as ((D.pj st).take i)
 refine⟨p,rfl,⟨_,gO.of Lu⟩,kR (K:=K) (a:=p) (xs:=gw ((D.pj st).map (·.nm))) (by rw[Ob,Ob];omega) Jv
  ⟨none,[],rfl,rfl,rfl,.nil⟩ (λi ys Z H3 _ ⟨_,as,_,e,e2,e3⟩=>?_) ?_ ?_⟩
 ·rw[e,e2]
  have:=aak e3
  rw[aaC] at this
  exact⟨gO.of Lu,by rw[Ob];omega⟩
 ·rintro i v ys Z H3 hx ⟨v2,as,rfl,rfl,rfl,e3⟩
  obtain⟨y,hy,rfl⟩:=mx hx
  rw[aam] at hy
  obtain⟨pt,LX,rfl⟩:=Option.map_eq_some_iff.mp hy
  have wy:pt∈D.made:=(Inv.i3.mp (WW LX)).1
  obtain⟨a,z1,z2⟩:=x.vm pt wy
  refine⟨_,rfl,d,A.gB,U.dx,_,_,rfl,s1 _ _ x.hd,O.gP,O.i5,ql _ _ _,_,rfl,U.m,.ref a,rfl,?_,?_⟩
  ·have:=ja.k (k:=sk pt.nm) (s1 _ _ x.hm)
   rw[z1] at this
   exact this
  ·refine⟨_,as++[a],rfl,rfl,by rw[aau];rfl,?_⟩
   rw[take_snoc LX]
   exact iz e3 z2
 ·rintro ys Z H3 ⟨v2,as,rfl,rfl,rfl,e3⟩ r rG
  have e0:(gw ((D.pj st).map (·.nm))).length=(D.pj st).length:=by rw[Ob,Ob]
  rw[e0,aaq] at e3
  have s2:=s1.new (o:=.lst (as.map V.ref)) rG
  exact q hs r _ s2 (s1.free rG) ⟨as,b_,Paired.jh e3 λ_ _ z=>z.same s2⟩
def MZ(A:Ad):Sp:=λvs H Q E=>∃(d:Addr)(D:Dk)(W:Addr->Prop)(s f:Str),vs=[.ref d,.str s,.str f]/\ip A H d D W/\kW s/\Small D.made/\Inv D/\(s∉D.stores->E (.ref A.iW) none H)/\(s∈D.stores->∀p H',gs H H'->H p=none->Gm A H' p (gR (D.pj s) f) (D.row s f)->Q (.ref p) H')
theorem o8(T:Txt mg)(O:Ok K mg A):il P w K mg base (tX P w) 5 A.rm A.rn ["self","store","file"] (MZ A):=by
 have xG:=@Bf P w K mg base A T O
 have wA:=@Bk P w K mg base A T O
 refine O.k_.f.rE xj λjt A0 outer s H vs Q E hr h=>?_
 obtain⟨d,D,W,st,f,rfl,X,hf,sm,I,qe,q⟩:=h
 obtain⟨U,x⟩:=id X
 refine⟨_,(f_ (gZ (vp O.MH xG (hr.mono (by decide)) (by rfl) O.MJ O.sH.b .nil pR (a_ (zI bx (pv 0) O.gP O.rB wA hr (a_ (pv 1) d_)) (a_ (pv 2) d_))))),?_⟩
 refine⟨_,rfl,d,U.dx,_,rfl,x.hd,Bi,_,rfl,d,D,W,st,rfl,X,hf,sm.many,λhs=>qe hs,λhs a H1 s1 VT Oj=>?_⟩
 refine⟨_,rfl,?_⟩
 intro p px np Yz nxp
 have s2:gs H1 (upd (upd H1 px (.own p)) p (.ins A.ie px [])):=λb o e=>by
  rw[e_ (gv e np),e_ (gv e Yz)]
  exact e
 refine⟨p,px,a,D.pj st,f,rfl,b_,Oj.same s2,sm.sub (Inv.za st),I.nodup st f,I.closed hs f,I.Ph st f,λH' k sg=>⟨rfl,?_⟩⟩
 exact q hs p H' (λb o e=>k b o (s2 b o (s1 b o e)) (gv (s1 b o e) np)) (s1.free np) sg
theorem KY{D:Dk}(I:Inv D)(s f:Str):∀l∈D.row s f,l.nm∈(gR (D.pj s) f).map (·.nm):=λl hl=>YO ((lM _ f).subset ((I.rQ s f).subset hl))
def PV(A:Ad):Sp:=λvs H Q E=>∃(d:Addr)(D:Dk)(W:Addr->Prop)(s f:Str),vs=[.ref d,.str s,.str f]/\ip A H d D W/\kW s/\Small D.made/\Inv D/\(s∉D.stores->E (.ref A.iW) none H)/\(s∈D.stores->∀p H',gs H H'->H p=none->nM H' p (D.row s f)->Q (.ref p) H')
theorem KZ(T:Txt mg)(O:Ok K mg A):il P w K mg base (tX P w) 6 A.Ae A.Af ["self","store","file"] (PV A):=by
 have jk:=@o8 P w K mg base A T O
 refine O.Am.f.rE xY λjt A0 outer s H vs Q E hr h=>?_
 obtain⟨d,D,W,st,f,rfl,X,hf,sm,I,qe,q⟩:=h
 obtain⟨U,x⟩:=id X
 have sz:sizeLine=16777216:=aaw
 have DV:(D.row st f).length<=4000:=aai (I.vC st f) sm.iE
 refine⟨_,(f_ (gZ (xT zU (gr qI).names [3] rfl (iq (gK (zI bx (pv 0) O.gP O.k_ jk hr (a_ (pv 1) (a_ (pv 2) d_))) rfl)) rfl (by decide+kernel) (λ_ _ _ _=>(iK (i:=3) xY.nd rfl (Or.inl rfl))) (λ_ _ _ _=>nV) (λ_ _ _ _=>CD (wK (a_ (jH l8 (gK (pv 3) rfl) gq (λ_ _=>rfl)) (a_ (jH l8 (gK (pv 3) rfl) gq (λ_ _=>rfl)) (a_ (gK (pv 3) rfl) d_)))))))),?_⟩
 refine⟨_,rfl,d,U.dx,_,rfl,x.hd,o7,_,rfl,_,rfl,d,D,W,st,f,rfl,X,hf,sm,I,λhs=>qe hs,λhs p H1 s1 rH ⟨px,ah,l,g1,g2,⟨as,g3,g4⟩⟩=>?_⟩
 have hlen:=aak g4
 let Jv:=λ(i:Nat) (ys:List V) (Z:St) (H4:Hp)=>∃(v3:Option V),Z=[rr d,rs st,rs f,v3]/\gs H1 H4/\Paired (ox H4) ys ((D.row st f).take i)
 refine⟨p,A.ie,px,_,_,rfl,g1,O.j8,O.iu,lA ah l,l,rfl,⟨_,gO.of g3⟩,kR (K:=K) (a:=l) (xs:=as.map V.ref) (by rw[Ob];omega) Jv
  ⟨none,rfl,gs.refl _,.nil⟩ (by rintro _ _ _ _ _ ⟨_,_,e,e2⟩;exact⟨gO.of (e _ _ g3),by rw[aak e2,aaC];omega⟩) ?_ ?_⟩
 ·rintro i v ys Z H4 hx ⟨v3,rfl,s4,e2⟩
  obtain⟨b,hb,rfl⟩:=j9 hx
  obtain⟨ln,wz,Ry,vn,vu,vl,k1,⟨nt,rfl,k2⟩,k3,k4⟩:=ik g4 hb
  refine⟨_,rfl,b,A.gW,Ry,_,_,rfl,s4 _ _ k1,O.iR,O.gT,i6,nt,_,_,_,rfl,rfl,pf.of (s4 _ _ k2),gJ (j:=0) rfl rfl,?_⟩
  refine⟨_,rfl,b,A.gW,Ry,_,_,rfl,s4 _ _ k1,O.iR,O.gT,i6,nt,_,_,_,rfl,rfl,pf.of (s4 _ _ k2),gJ (j:=1) rfl rfl,?_⟩
  refine⟨_,rfl,b,A.gW,Ry,_,_,rfl,s4 _ _ k1,O.iR,O.jO,An,L2.jS,λt ht=>?_⟩
  have s5:=(gs.refl H4).new (o:=.tup [.str ln.nm.1,.int ln.nm.2,.str ln.tx]) ht
  refine⟨_,rfl,s4.trans s5,?_⟩
  rw[take_snoc wz]
  exact iz (Paired.jh e2 λ_ _ z=>z.same s5) ⟨t,rfl,b_⟩
 ·rintro ys Z H4 ⟨v3,rfl,s4,e2⟩ r rG
  rw[Ob,hlen,aaq] at e2
  have s5:=(s1.trans s4).new (o:=.lst ys) rG
  exact q hs r _ s5 ((s1.trans s4).free rG) ⟨ys,b_,Paired.jh e2 λ_ _ z=>z.same ((gs.refl H4).new rG)⟩
def SR(A:Ad):Sp:=λvs H Q E=>∃(d:Addr)(D:Dk)(W:Addr->Prop)(s f:Str),vs=[.ref d,.str s,.str f]/\ip A H d D W/\kW s/\Small D.made/\Inv D/\(s∉D.stores->E (.ref A.iW) none H)/\(s∈D.stores->∀p H' vs,gs H H'->H p=none->H' p=some (.lst vs)->iF H' (D.oz s f) vs->Q (.ref p) H')
theorem yF(T:Txt mg)(O:Ok K mg A):il P w K mg base (tX P w) 6 A.rj A.rl ["self","store","file"] (SR A):=by
 have jk:=@o8 P w K mg base A T O
 have k7:=@sR P w K mg base A T O
 refine O.pz.f.rE xi λjt A0 outer s H vs Q E hr h=>?_
 obtain⟨d,D,W,st,f,rfl,X,hf,sm,I,qe,q⟩:=h
 obtain⟨U,x⟩:=id X
 have DV:(D.row st f).length<=4000:=aai (I.vC st f) sm.iE
 refine⟨_,(f_ (gZ (D_ (zI bx (pv 0) O.gP O.k_ jk hr (a_ (pv 1) (a_ (pv 2) d_))) O.j8 O.jN.t k7 (hr.mono (by decide)) O.jN.b .nil pR))),?_⟩
 refine⟨_,rfl,d,U.dx,_,rfl,x.hd,o7,_,rfl,_,rfl,d,D,W,st,f,rfl,X,hf,sm,I,λhs=>qe hs,λhs p H1 s1 rH sg=>?_⟩
 obtain⟨px,ah,l,g1,g2,g3⟩:=id sg
 refine⟨p,px,_,rfl,g1,KP ah l,p,_,_,rfl,sg,KY I st f,DV,λr H2 vs s2 rG xF Ce=>?_⟩
 exact q hs r H2 vs (s1.trans s2) (s1.free rG) xF Ce
end
theorem sT{xs ys:List Str}(nd:xs.Nodup)(h:∀x∈xs,x∈ys):xs.length<=ys.length:=by
 have:=len_sub (xs:=xs.map λk=>((k,0):Nm)) (ys:=ys.map λk=>(k,0)) (abI.mpr (nd.imp λh z=>h (aaQ Prod.fst z))) λx hx=>by
  obtain⟨k,hk,rfl⟩:=aaA.mp hx
  exact YO (h k hk)
 rwa [Ob,Ob] at this
section
variable{A:Ad}{H:Hp}{x:Addr}{o:HO}{kv:List (Key×V)}
theorem nv.dk{a:Addr}{l:Ln}(h:nv A H a l)(hx:H x=some (.dK kv)):nv A (L2.upd H x o) a l:=nv.upd h hx (λ_ z=>by cases z) (λ_ _ _ z=>by cases z)
theorem qO.dk{a:Addr}{ls:List Ln}(h:qO A H a ls)(hx:H x=some (.dK kv)):qO A (L2.upd H x o) a ls:=by
 obtain⟨as,h1,h2⟩:=h
 exact⟨as,by rw[e_ (i9 h1 hx (λz=>by cases z))];exact h1,Paired.jh h2 λ_ _ z=>z.dk hx⟩
theorem Ao.dk{a:Addr}{ns:List Nm}(h:Ao H a ns)(hx:H x=some (.dK kv)):Ao (L2.upd H x o) a ns:=by
 obtain⟨vs,h1,h2⟩:=h
 exact⟨vs,by rw[e_ (i9 h1 hx (λz=>by cases z))];exact h1,Paired.jh h2 λ_ _ z=>z.upd hx (λ_ z=>by cases z)⟩
theorem oA.dk{a:Addr}{p:Pt}(h:oA A H a p)(hx:H x=some (.dK kv)):oA A (L2.upd H x o) a p:=by
 obtain⟨dx,vf,pu,cu,vo,h0,h1,h2,h3,h4⟩:=h
 exact⟨dx,vf,pu,cu,vo,by rw[e_ (i9 h0 hx (λz=>by cases z))];exact h0,h1,h2.dk hx,h3.dk hx,h4⟩
end
def Fb(l:List Str)(m:Str):List Str:=if m∈l then l else l++[m]
theorem Fc{l:List Str}{m x:Str}:x∈Fb l m↔x∈l\/x=m:=by
 unfold Fb
 split
 ·rename_i h
  exact⟨.inl,λz=>z.elim id λz=>z▸h⟩
 ·simp
theorem Hm{l:List Str}{m:Str}(h:l.Nodup):(Fb l m).Nodup:=by
 unfold Fb
 split
 ·exact h
 ·rename_i hm
  rw[aaZ]
  exact⟨h,by simp,λa ha b hb z=>hm (by rw[WO.mp hb] at z;exact z▸ha)⟩
theorem B4{dk:List (Key×V)}{l:List Str}(h:dk.map (·.1)=l.map sk)(m:Str)(v:V):(putK dk (sk m) v).map (·.1)=(Fb l m).map sk:=by
 rw[qi,h]
 unfold Fb
 by_cases e:m∈l
 ·rw[aan (Av.mpr e),aan e]
 ·rw[aac (λz=>e (Av.mp z)),aac e,aau];rfl
theorem B5:∀(more:List (Key×V))(dk:List (Key×V))(l r:List Str),dk.map (·.1)=l.map sk->more.map (·.1)=r.map sk->l.Nodup->∃l':List Str,(putAll dk more).map (·.1)=l'.map sk/\l'.Nodup/\∀m,m∈l'↔m∈l\/m∈r
 | [],dk,l,r,h1,h2,nd=>by
  have:r=[]:=by cases r with|nil=>rfl|cons _ _=>cases h2
  subst this
  exact⟨l,h1,nd,λm=>by simp⟩
 | p::t,dk,l,r,h1,h2,nd=>by
  cases r with
  | nil=>cases h2
  | cons x r=>
   rw[aat,aat] at h2
   injection h2 with e1 e2
   rw[rO,e1]
   obtain⟨l',z1,z2,z3⟩:=B5 t (putK dk (sk x) p.2) (Fb l x) r (B4 h1 x _) e2 (Hm nd)
   refine⟨l',z1,z2,λm=>?_⟩
   rw[z3 m,Fc,XH,or_assoc]
theorem Gq{kvs:List (Key×V)}{l:List Str}{x:Str}(h:kvs.map (·.1)=l.map sk):(jZ kvs (sk x)).map (·.1)=(l.filter λy=>y≠x).map sk:=by
 induction kvs generalizing l with
 | nil=>
  cases l with
  | nil=>rfl
  | cons _ _=>cases h
 | cons p r ih=>
  cases l with
  | nil=>cases h
  | cons y t=>
   rw[aat,aat] at h
   injection h with e1 e2
   by_cases e:y=x
   ·rw[wM (by rw[e1,e]),ih e2,aab (by simpa using e)]
   ·rw[wN (by rw[e1];exact λz=>e (ack z)),ZT (by simpa using e),aat,aat,ih e2,e1]
def xr(D:Dk)(s:Str)(l:List Str):Dk:=⟨D.made,D.iD,D.stores,λt=>if t=s then l else D.held t⟩
theorem NX.xr{A:Ad}{H:Hp}{d:Addr}{D:Dk}{W:Addr->Prop}{U:Dp}{s:Str}{l:List Str}{kv:List (Key×V)}(x:NX A H d D W U)(hs:s∈D.stores)(hk:kv.map (·.1)=l.map sk):NX A (upd H (U.ha s) (.dK kv)) d (PK.xr D s l) W U:=by
 obtain⟨v1,v2,v3,v4,v5,YA,v6,v7⟩:=x.vh s hs
 exact{
  hd:=by rw[e_ (i9 x.hd v6 (λz=>by cases z))];exact x.hd
  hm:=by rw[e_ v3.symm];exact x.hm
  hn:=by rw[e_ v4.symm];exact x.hn
  hh:=by rw[e_ v5.symm];exact x.hh
  mn:=x.mn
  mh:=x.mh
  nh:=x.nh
  wm:=x.wm
  wn:=x.wn
  wh:=x.wh
  km:=x.km
  vm:=λp hp=>by obtain⟨a,h1,h2⟩:=x.vm p hp;exact⟨a,h1,h2.dk v6⟩
  kn:=x.kn
  vn:=λy hy=>by
   obtain⟨a,kv,l,h1,h2,h3,h4⟩:=x.vn y hy
   exact⟨a,kv,l,h1,h2,by rw[e_ (λ(z:a=U.ha s)=>h2 (by rw[z];exact v2))];exact h3,h4⟩
  kh:=x.kh
  vh:=λt ht=>by
   obtain⟨h1,h2,h3,h4,h5,kv,h6,h7⟩:=x.vh t ht
   refine⟨h1,h2,h3,h4,h5,?_⟩
   show ∃kv:List (Key×V),_/\kv.map (·.1)=(if t=s then l else D.held t).map sk
   by_cases e:t=s
   ·subst e
    rw[aan rfl]
    exact⟨_,b_,hk⟩
   ·rw[aac e]
    exact⟨kv,by rw[e_ (λz=>e (x.inj t ht s hs z))];exact h6,h7⟩
  inj:=x.inj
  dk:=λb hb=>by
   by_cases e:b=U.ha s
   ·rw[e];exact⟨_,b_⟩
   ·obtain⟨kv,h⟩:=x.dk b hb;exact⟨kv,by rw[e_ e];exact h⟩}
section
variable{P:Program}{w:World}{K:Qqy}{mg:Qqx}{base:Heap}{A:Ad}
def M0(A:Ad):Sp:=λvs H Q E=>∃(d:Addr)(D:Dk)(W:Addr->Prop)(s:Str),vs=[.ref d,.str s]/\ip A H d D W/\kW s/\D.stores.length<1000/\(¬Good s->E (.ref A.jF) none H)/\(Good s->s∈D.stores->E (.ref A.js) none H)/\
 (Good s->s∉D.stores->∀H' W',ip A H' d (D.begin s) W'->o6 W H H'->(∀b,W' b->W b\/H b=none)->Q .jg H')
theorem K0(T:Txt mg)(O:Ok K mg A):il P w K mg base (tX P w) 2 A.vS A.vT ["self","store"] (M0 A):=by
 have qV:=@ur P w K mg base A T O
 refine O.Ak.f.rE A6 λjt A0 outer s H vs Q E hr h=>?_
 obtain⟨d,D,W,st,rfl,X,hf,hlen,q1,q2,q3⟩:=h
 obtain⟨U,x⟩:=id X
 have sz:sizeLine=16777216:=aaw
 refine⟨_,(de (h_ (WU bx O.uN qV hr (a_ (pv 1) d_)))
   (de (iC (jv (ph (by exact iZ hr) (pv 1) (gK (pv 0) rfl))) (f_ (ke bx O.yD (by rfl) (lI (iw i_ (iw (mU (pv 1)) (iw i_ nX)))))) g_)
   (f_ (jB (by exact iZ hr) (gK (pv 0) rfl) (pv 1) nU rfl)))),?_⟩
 refine Ep ?_;intro _ _
 refine⟨_,rfl,st,rfl,hf,λg=>?_,λng=>q1 ng⟩
 refine⟨_,rfl,_,rfl,d,A.gB,U.dx,_,_,rfl,x.hd,O.gP,O.iB,lg _ _ _,U.h,_,rfl,ja.k (k:=sk st) x.hh,_,rfl,?_⟩
 rw[kq x.kh]
 by_cases hs:st∈D.stores
 ·rw[WV hs]
  refine lX ⟨_,rfl,by decide+kernel,⟨_,rfl,_,rfl,hf.1,_,rfl,hf.1,⟨_,rfl,by decide+kernel,λ_=>q2 g hs⟩⟩⟩
 ·rw[ZW hs]
  refine jD ?_
  intro p rH
  have fr:∀{b o},H b=some o->b≠p:=λe=>gv e rH
  have LV:(upd H p (.dK [])) U.h=some (.dK U.kH):=by rw[e_ (fr x.hh)];exact x.hh
  have Jo:=ko x.kh
  refine⟨_,rfl,d,A.gB,U.dx,_,_,rfl,by rw[e_ (fr x.hd)];exact x.hd,O.gP,O.iB,lg _ _ _,_,rfl,U.h,_,rfl,nN.k (k:=sk st) LV (by omega),?_⟩
  have s1:gs H (upd H p (.dK [])):=(gs.refl H).new rH
  have up:∀{b o},H b=some o->b≠U.h->upd (upd H p (.dK [])) U.h (.dK (putK U.kH (sk st) (.ref p))) b=some o:=λ{b o} e n=>by rw[e_ n];exact s1 _ _ e
  have YB:p≠U.h:=(fr x.hh).symm
  refine q3 g hs _ (λb=>W b\/b=p) ⟨⟨U.dx,U.m,U.n,U.h,λt=>if t=st then p else U.ha t,U.kM,U.kN,putK U.kH (sk st) (.ref p)⟩,?_⟩ (λb o e nw=>?_) (λb hb=>?_)
  ·exact{
    hd:=up x.hd (i9 x.hd x.hh (λz=>by cases z))
    hm:=up x.hm x.mh
    hn:=up x.hn x.nh
    hh:=b_
    mn:=x.mn
    mh:=x.mh
    nh:=x.nh
    wm:=.inl x.wm
    wn:=.inl x.wn
    wh:=.inl x.wh
    km:=x.km
    vm:=λq hq=>by obtain⟨a,h1,h2⟩:=x.vm q hq;exact⟨a,h1,(h2.same s1).dk LV⟩
    kn:=x.kn
    vn:=λy hy=>by
     obtain⟨a,kv,l,h1,h2,h3,h4⟩:=x.vn y hy
     exact⟨a,kv,l,h1,λz=>z.elim h2 (fr h3),up h3 (λ(z:a=U.h)=>h2 (by rw[z];exact x.wh)),h4⟩
    kh:=qj x.kh hs _
    vh:=λt ht=>by
     show iT (putK U.kH (sk st) (.ref p)) (sk t)=some (.ref (if t=st then p else U.ha t))/\(W (if t=st then p else U.ha t)\/(if t=st then p else U.ha t)=p)/\(if t=st then p else U.ha t)≠U.m/\(if t=st then p else U.ha t)≠U.n/\(if t=st then p else U.ha t)≠U.h/\∃kv:List (Key×V),(upd (upd H p (.dK [])) U.h (.dK (putK U.kH (sk st) (.ref p)))) (if t=st then p else U.ha t)=some (.dK kv)/\kv.map (·.1)=(if t=st then[] else D.held t).map sk
     rw[kc]
     by_cases e:t=st
     ·subst e
      rw[aan rfl,aan rfl,aan rfl]
      exact⟨rfl,.inr rfl,(fr x.hm).symm,(fr x.hn).symm,YB,[],by rw[e_ YB];exact b_,rfl⟩
     ·have NB:t∈D.stores:=(ZU.mp ht).elim id λz=>absurd (WO.mp z) e
      rw[aac (λz=>e (ack z)),aac e,aac e]
      obtain⟨h1,h2,h3,h4,h5,kv,h6,h7⟩:=x.vh t NB
      exact⟨h1,.inl h2,h3,h4,h5,kv,up h6 h5,h7⟩
    inj:=λt ht u hu e=>by
     have e:(if t=st then p else U.ha t)=(if u=st then p else U.ha u):=e
     by_cases e1:t=st
     ·by_cases e2:u=st
      ·rw[e1,e2]
      ·have NC:u∈D.stores:=(ZU.mp hu).elim id λz=>absurd (WO.mp z) e2
       rw[aan e1,aac e2] at e
       obtain⟨_,_,_,_,_,kv,h6,_⟩:=x.vh u NC
       exact absurd e.symm (fr h6)
     ·have NB:t∈D.stores:=(ZU.mp ht).elim id λz=>absurd (WO.mp z) e1
      by_cases e2:u=st
      ·rw[aac e1,aan e2] at e
       obtain⟨_,_,_,_,_,kv,h6,_⟩:=x.vh t NB
       exact absurd e (fr h6)
      ·have NC:u∈D.stores:=(ZU.mp hu).elim id λz=>absurd (WO.mp z) e2
       rw[aac e1,aac e2] at e
       exact x.inj t NB u NC e
    dk:=λb hb=>by
     by_cases e:b=U.h
     ·rw[e];exact⟨_,b_⟩
     ·rcases hb with hb|hb
      ·obtain⟨kv,h⟩:=x.dk b hb;exact⟨kv,up h e⟩
      ·rw[hb];exact⟨[],by rw[e_ YB];exact b_⟩}
  ·exact up e (λ(z:b=U.h)=>nw (by rw[z];exact x.wh))
  ·rcases hb with hb|hb
   ·exact .inl hb
   ·rw[hb];exact .inr rH
def SS(A:Ad):Sp:=λvs H Q E=>∃(d l:Addr)(D:Dk)(W:Addr->Prop)(x:Str)(fs:List Str),vs=[.ref d,.str x,.ref l]/\ip A H d D W/\H l=some (.lst (gw fs))/\fs.length<=1000/\(∀y∈x::fs,kW y)/\
 ((¬∀y∈x::fs,Good y)->∀H',gs H H'->E (.ref A.jF) none H')/\((∀y∈x::fs,Good y)->x∈D.names->∀H',gs H H'->E (.ref A.js) none H')/\((∀y∈x::fs,Good y)->x∉D.names->∀H',gs H H'->Q .jg H')
theorem qS(T:Txt mg)(O:Ok K mg A):il P w K mg base (tX P w) 2 A.qg A.qh ["self","patch","files"] (SS A):=by
 have qV:=@ur P w K mg base A T O
 refine O.lV.f.rE oT λjt A0 outer s H vs Q E hr h=>?_
 obtain⟨d,l,D,W,y,fs,rfl,X,hl,QQ,HL,q1,q2,q3⟩:=h
 obtain⟨U,x⟩:=id X
 have sz:sizeLine=16777216:=aaw
 refine⟨_,(de (ix JV rfl (iq (gG mT (iQ (a_ (pv 1) d_)) (pv 2))) (rF 3 oT) (f_ (h_ (WU bx O.uN qV hr (a_ (pv 3) d_)))))
   (f_ (iC (jv (ph (by exact iZ hr) (pv 1) (gK (pv 0) rfl))) (f_ (ke bx O.yD (by rfl) (lI (iw i_ (iw (mU (pv 1)) (iw i_ nX)))))) g_))),?_⟩
 refine JT ?_;intro _
 refine⟨_,rfl,L2.jS,λa ha=>?_⟩
 have s1:gs H (upd H a (.lst [V.str y])):=(gs.refl H).new ha
 refine⟨_,rfl,a,l,_,_,rfl,rfl,b_,s1 _ _ hl,by rw[Ob];show 1+_<=_;omega,λb hb=>?_⟩
 have s2:=s1.new (o:=.lst ([V.str y]++gw fs)) hb
 have QI:(upd (upd H a (.lst [V.str y])) b (.lst ([V.str y]++gw fs))) b=some (.lst (gw (y::fs))):=b_
 generalize upd (upd H a (.lst [V.str y])) b (.lst ([V.str y]++gw fs))=H2 at s2 QI
 let Jv:=λ(i:Nat) (Z:St) (H3:Hp)=>∃v,Z=[rr d,rs y,rr l,v]/\H3=H2/\∀z∈(y::fs).take i,Good z
 refine⟨b,rfl,⟨_,gO.of QI⟩,iV (K:=K) (a:=b) (xs:=gw (y::fs)) Jv ⟨none,rfl,rfl,λz hz=>by rw[aby] at hz;cases hz⟩ (by rintro _ _ _ _ ⟨_,_,e,_⟩;rw[e];exact gO.of QI) ?_ ?_⟩
 ·rintro i v Z H3 hx ⟨v0,rfl,rfl,hg⟩
  obtain⟨z,hz,rfl⟩:=mx hx
  refine⟨_,rfl,z,rfl,HL z (WW hz),λg=>?_,λng=>q1 (λh=>ng (h z (WW hz))) _ s2⟩
  refine⟨_,rfl,rfl,λt ht=>?_⟩
  rw[take_snoc hz] at ht
  rcases ZU.mp ht with ht|ht
  ·exact hg t ht
  ·rw[WO.mp ht];exact g
 ·rintro Z H3 ⟨v0,rfl,rfl,hg⟩
  rw[Ob,aaq] at hg
  refine⟨_,rfl,_,rfl,d,A.gB,U.dx,_,_,rfl,s2 _ _ x.hd,O.gP,O.i5,ql _ _ _,U.m,_,rfl,ja.k (k:=sk y) (s2 _ _ x.hm),_,rfl,?_⟩
  rw[kq x.km]
  have hf:=HL y aap
  by_cases hm:y∈D.names
  ·rw[WV hm]
   exact lX ⟨_,rfl,by decide+kernel,⟨_,rfl,_,rfl,hf.1,_,rfl,hf.1,⟨_,rfl,by decide+kernel,λ_=>q2 hg hm _ s2⟩⟩⟩
  ·rw[ZW hm]
   exact q3 hg hm _ s2
def M3(A:Ad):Sp:=λvs H Q E=>∃(d:Addr)(D:Dk)(W:Addr->Prop)(s:Str),vs=[.ref d,.str s]/\ip A H d D W/\kW s/\xo D.made.length/\(s∉D.names->E (.ref A.j1) none H)/\(s∈D.names->∀p,H p=none->Q (.ref p) (upd H p (.lst (gw (D.n5 s)))))
theorem K1(T:Txt mg)(O:Ok K mg A):il P w K mg base (tX P w) 2 A.vU A.vV ["self","patch"] (M3 A):=by
 have wB:=@Bj P w K mg base A T O
 refine O.Al.f.rE uf λjt A0 outer s H vs Q E hr h=>?_
 obtain⟨d,D,W,st,rfl,X,hf,jS,qe,q⟩:=h
 obtain⟨U,x⟩:=id X
 have yX:D.made.length<=4000:=jS
 have sz:sizeLine=16777216:=aaw
 refine⟨_,(de (h_ (zI bx (pv 0) O.gP O.rC wB hr (a_ (pv 1) d_)))
   (f_ (gZ (G7 (zy vJ (gr nP).names [2] rfl (CB (gK (pv 0) rfl)) rfl (by decide+kernel) (λ_ _ _ _=>(iK (i:=2) uf.nd rfl (Or.inl rfl))) (λ_ _ _ _=>⟨_,qr (jv (ph (by exact iZ hr) (pv 2) (zJ hr (gK (pv 0) rfl) (pv 1)))),by(try simp only [lH]);rfl⟩) (λ_ _ _ _=>CD (pv 2))))))),?_⟩
 refine JT ?_;intro _
 refine⟨_,rfl,d,U.dx,_,rfl,x.hd,Bh,_,rfl,d,D,W,st,rfl,X,hf,λhs=>?_,λhs=>qe hs⟩
 obtain⟨a,kv,l,v1,hnw,v2,v3,_,v4⟩:=x.vn st hs
 have qo:a≠U.m:=λz=>hnw (by rw[z];exact x.wm)
 refine⟨_,rfl,d,A.gB,U.dx,_,_,rfl,x.hd,O.gP,O.i5,ql _ _ _,U.m,U.kM,rfl,x.hm,λo uz=>?_⟩
 have Jo:=ko x.km
 have QK:D.names.length=D.made.length:=by unfold Dk.names;rw[Ob]
 have RB:d≠U.m:=i9 x.hd x.hm (λz=>by cases z)
 have f:∀{b u},H b=some u->b≠U.m->upd H U.m (.nB o (.dK U.kM)) b=some u:=λ{b u} e n=>by rw[e_ n];exact e
 refine G8 (by omega) (λi ys Z H3=>∃(v2:Option V)(zs:List Str),Z=[rr d,rs st,v2]/\H3=upd H U.m (.nB o (.dK U.kM))/\ys=gw zs/\zs=(D.names.take i).filter λx=>x∈D.iD st) ⟨none,[],rfl,rfl,rfl,rfl⟩ (λi ys Z H3 ⟨_,zs,_,e,e2,e3⟩=>?_) ?_ ?_
 ·rw[e,e2,e3]
  refine⟨b_,?_⟩
  rw[Ob]
  exact aai (aaN _ _) (by rw[aaC];omega)
 ·rintro i k v ys Z H3 hi ⟨v0,zs,rfl,rfl,rfl,e3⟩
  obtain⟨y,hy,rfl⟩:=xq x.km hi
  refine⟨_,rfl,_,rfl,d,A.gB,U.dx,_,_,rfl,f x.hd RB,O.gP,O.je,tN _ _ _,_,rfl,U.n,.ref a,rfl,?_,a,_,rfl,ja.k (k:=sk y) (f v2 qo),_,rfl,?_⟩
  ·have:=ja.k (k:=sk st) (f x.hn x.mn.symm)
   rw[v1] at this
   exact this
  ·rw[kq v3,take_snoc hy,aaH]
   by_cases hm:y∈D.iD st
   ·rw[WV ((v4 y).mpr hm)]
    refine lX ⟨_,rfl,_,_,rfl,rfl,ju _ _,?_⟩
    rw[e3,ZT (by simpa using hm),aa2]
   ·rw[ZW (λz=>hm ((v4 y).mp z))]
    refine jD ⟨_,_,rfl,rfl,rfl,?_⟩
    rw[e3,aab (by simpa using hm),aa2,aaM]
 ·rintro ys Z H3 ⟨v0,zs,rfl,rfl,rfl,e3⟩ p rH
  rw[Jo,aaq] at e3
  have GI:p≠U.m:=λz=>by rw[z,b_] at rH;cases rH
  have GF:H p=none:=by rw[e_ GI] at rH;exact rH
  refine⟨U.m,o,_,by rw[e_ GI.symm];exact b_,uz,?_⟩
  rw[CA x.hm GI]
  have:=q hs p GF
  unfold Dk.n5 at this
  rw[<-e3] at this
  exact this
def PX(A:Ad):Sp:=λvs H Q _=>∃(d a:Addr)(D:Dk)(W:Addr->Prop)(s:Str)(p:Pt),vs=[.ref d,.str s,.ref a]/\ip A H d D W/\Inv D/\xo D.made.length/\s∈D.stores/\oA A H a p/\p.nm∉D.names/\xo p.iE.length/\xo p.jx.length/\(∀y∈ir p,y∈D.names)/\
 ∀H',ip A H' d (D.keep s p) W->o6 W H H'->Q .jg H'
theorem Df(p:Pt):(ir p).length<=p.jx.length+2*p.iE.length+1:=by
 unfold ir
 rw[XF,Ob]
 have h1:=aaN (λn:Nm=>decide (n.1≠p.nm)) (named p)
 have h2:=B3 p
 have h3:p.other.toList.length<=1:=by cases p.other<;>simp
 omega
theorem Dg(T:Txt mg)(O:Ok K mg A):il P w K mg base mD 3 A.yk A.yl ["self","store","patch"] (PX A):=by
 have tV:=@sS P w K mg base A T O
 refine O.tI.f.q_ qL λjt A0 outer s H vs Q E hr h=>?_
 obtain⟨d,a,D,W,st,p,rfl,X,I,jS,hs,LX,fresh,GG,Fn,xy,q⟩:=h
 obtain⟨U,x⟩:=id X
 have yX:D.made.length<=4000:=jS
 have Oh:p.iE.length<=4000:=GG
 have LA:p.jx.length<=4000:=Fn
 have sz:sizeLine=16777216:=aaw
 have QK:D.names.length=D.made.length:=by unfold Dk.names;rw[Ob]
 have Vo:=Df p
 refine⟨_,(de (k8 3 qL nU)
   (de (ix aar rfl (iq (oM O.o5 tV hr (a_ (pv 2) d_))) (rF 4 qL) (de (jB (by exact iZ hr) (pv 3) (pv 4) kG rfl)
   (f_ (h_ (Kg (pv 3) (zJ hr (gK (pv 0) rfl) (pv 4)) ⟨rfl,rfl,rfl,rfl⟩)))))
   (de (jB (by exact iZ hr) (gK (pv 0) rfl) (gK (pv 2) rfl) (pv 3) rfl)
   (de (jB (by exact iZ hr) (gK (pv 0) rfl) (gK (pv 2) rfl) (pv 2) rfl)
   (f_ (jB (by exact iZ hr) (zJ hr (gK (pv 0) rfl) (pv 1)) (gK (pv 2) rfl) kG rfl)))))),?_⟩
 refine Q8 ?_;intro _ _ _ _
 intro nd Qw
 have s1:gs H (upd H nd (.dK [])):=(gs.refl H).new Qw
 have QR:(upd H nd (.dK [])) nd=some (.dK []):=b_
 generalize upd H nd (.dK [])=H1 at s1 QR
 refine⟨_,rfl,a,p,rfl,LX.same s1,GG,Fn,λr H2 s2 rG xF=>?_⟩
 have DX:=s1.trans s2
 have hrn:r≠nd:=λz=>by rw[z,QR] at rG;cases rG
 have VU:¬W nd:=X.jg Qw
 let Jv:=λ(i:Nat) (Z:St) (H3:Hp)=>∃(v:Option V)(kv:List (Key×V))(l:List Str),Z=[rr d,rs st,rr a,rr nd,v]/\(∀b o,H2 b=some o->b≠nd->H3 b=some o)/\H3 nd=some (.dK kv)/\kv.map (·.1)=l.map sk/\l.Nodup/\∀y,y∈l↔∃z∈(ir p).take i,y=z\/y∈D.iD z
 refine⟨r,rfl,⟨_,gO.of xF⟩,iV (K:=K) (a:=r) (xs:=gw (ir p)) Jv
  ⟨none,[],[],rfl,λb o e _=>e,s2 _ _ QR,rfl,aa9,λy=>by simp⟩ (by rintro _ _ _ _ ⟨_,_,_,_,e,_⟩;exact gO.of (e _ _ xF hrn)) ?_ ?_⟩
 ·rintro i v Z H3 hx ⟨v0,kv,l,rfl,e1,e2,e3,e4,e5⟩
  obtain⟨z,hz,rfl⟩:=mx hx
  have hzm:z∈ir p:=WW hz
  have Uy:z∈D.names:=xy z hzm
  obtain⟨az,kz,lz,z1,z2,z3,z4,z5,z6⟩:=x.vn z Uy
  have xA:∀y∈l,y∈D.names:=λy hy=>by
   obtain⟨t,ht,h⟩:=(e5 y).mp hy
   have htn:=xy t (List.mem_of_mem_take ht)
   rcases h with h|h
   ·rw[h];exact htn
   ·exact I.zb htn h
  have X_:=sT e4 xA
  have hlz:=sT z5 λy hy=>I.zb Uy ((z6 y).mp hy)
  have Jo:=ko e3
  have hkz:=ko z4
  have hlk:=jr kv (sk z) (V.bl true)
  have YC:az≠nd:=λe=>by rw[e,Qw] at z3;cases z3
  refine⟨_,rfl,_,rfl,nd,_,rfl,nN.k (k:=sk z) e2 (by omega),?_⟩
  have up:∀{b o},H b=some o->upd H3 nd (.dK (putK kv (sk z) (V.bl true))) b=some o:=λ{b o} e=>by
   have n:b≠nd:=λz=>by rw[z,Qw] at e;cases e
   rw[e_ n];exact e1 _ _ (DX _ _ e) n
  refine⟨_,rfl,nd,rfl,.inl ⟨_,.inl b_⟩,_,rfl,d,A.gB,U.dx,_,_,rfl,up x.hd,O.gP,O.je,tN _ _ _,_,rfl,U.n,.ref az,rfl,?_,az,_,kz,rfl,b_,.inl (up z3),YC.symm,by omega,?_⟩
  ·have:=ja.k (k:=sk z) (up x.hn)
   rw[z1] at this
   exact this
  ·obtain⟨l',w1,w2,w3⟩:=B5 kz _ (Fb l z) lz (B4 e3 z (V.bl true)) z4 (Hm e4)
   refine⟨_,_,l',rfl,λb o e n=>by rw[e_ n,e_ n];exact e1 b o e n,b_,w1,w2,λy=>?_⟩
   rw[w3 y,Fc,e5 y,z6 y,take_snoc hz]
   constructor
   ·rintro((⟨t,ht,h⟩|h)|h)
    ·exact⟨t,aad _ ht,h⟩
    ·exact⟨z,by simp,.inl h⟩
    ·exact⟨z,by simp,.inr h⟩
   ·rintro⟨t,ht,h⟩
    rcases ZU.mp ht with ht|ht
    ·exact .inl (.inl ⟨t,ht,h⟩)
    ·rw[WO.mp ht] at h
     exact h.elim (λh=>.inl (.inr h)) .inr
 ·rintro Z H3 ⟨v0,kv,l,rfl,e1,e2,e3,e4,e5⟩
  rw[Ob,aaq] at e5
  have s3:gs H H3:=λb o e=>e1 b o (DX _ _ e) (λz=>by rw[z,Qw] at e;cases e)
  obtain⟨dx,vf,pu,cu,vo,g1,g2⟩:=LX.same s3
  have y:=x.same s3
  have hnM:=ko x.km
  have hnN:=ko x.kn
  obtain⟨v1,v2,v3,v4,v5,YA,v6,v7⟩:=y.vh st hs
  have hkv0:=ko v7
  have hhl:=sT (I.vA st hs) λt ht=>(I.kA st hs t ht).1
  refine⟨_,rfl,_,rfl,d,A.gB,U.dx,_,_,rfl,y.hd,O.gP,O.je,tN _ _ _,_,rfl,a,A.gY,dx,_,_,rfl,g1,O.jo,O.i0,sM,U.n,_,rfl,nN.k (k:=sk p.nm) y.hn (by omega),?_⟩
  have f1:∀{b o},H3 b=some o->b≠U.n->upd H3 U.n (.dK (putK U.kN (sk p.nm) (.ref nd))) b=some o:=λ{b o} e n=>by rw[e_ n];exact e
  have LU:d≠U.n:=i9 y.hd y.hn (λz=>by cases z)
  have han:a≠U.n:=i9 g1 y.hn (λz=>by cases z)
  have RB:d≠U.m:=i9 y.hd y.hm (λz=>by cases z)
  have ham:a≠U.m:=i9 g1 y.hm (λz=>by cases z)
  refine⟨_,rfl,_,rfl,d,A.gB,U.dx,_,_,rfl,f1 y.hd LU,O.gP,O.i5,ql _ _ _,_,rfl,a,A.gY,dx,_,_,rfl,f1 g1 han,O.jo,O.i0,sM,U.m,_,rfl,nN.k (k:=sk p.nm) (f1 y.hm x.mn) (by omega),?_⟩
  have f2:∀{b o},H3 b=some o->b≠U.n->b≠U.m->upd (upd H3 U.n (.dK (putK U.kN (sk p.nm) (.ref nd)))) U.m (.dK (putK U.kM (sk p.nm) (.ref a))) b=some o:=λ{b o} e n m=>by rw[e_ m];exact f1 e n
  refine⟨_,rfl,d,A.gB,U.dx,_,_,rfl,f2 y.hd LU RB,O.gP,O.iB,lg _ _ _,_,rfl,U.h,.ref (U.ha st),rfl,?_,_,rfl,a,A.gY,dx,_,_,rfl,f2 g1 han ham,O.jo,O.i0,sM,U.ha st,_,rfl,nN.k (k:=sk p.nm) (f2 v6 v4 v3) (by omega),?_⟩
  ·have:=ja.k (k:=sk st) (f2 y.hh x.nh.symm x.mh.symm)
   rw[v1] at this
   exact this
  ·have hpn:p.nm∉D.held st:=λz=>fresh (I.kA st hs _ z).1
   have f3:∀{b o},H3 b=some o->b≠U.n->b≠U.m->b≠U.ha st->upd (upd (upd H3 U.n (.dK (putK U.kN (sk p.nm) (.ref nd)))) U.m (.dK (putK U.kM (sk p.nm) (.ref a)))) (U.ha st) (.dK (putK YA (sk p.nm) (V.bl true))) b=some o:=λ{b o} e n m h=>by rw[e_ h];exact f2 e n m
   have f4:∀{b q},oA A H3 b q->oA A (upd (upd (upd H3 U.n (.dK (putK U.kN (sk p.nm) (.ref nd)))) U.m (.dK (putK U.kM (sk p.nm) (.ref a)))) (U.ha st) (.dK (putK YA (sk p.nm) (V.bl true)))) b q:=λz=>((z.dk y.hn).dk (f1 y.hm x.mn)).dk (f2 v6 v4 v3)
   have nW:∀{b},¬W b->b≠U.n/\b≠U.m/\b≠U.ha st:=λ{b} h=>⟨λz=>h (by rw[z];exact x.wn),λz=>h (by rw[z];exact x.wm),λz=>h (by rw[z];exact v2)⟩
   refine q _ ⟨{U with kM:=putK U.kM (sk p.nm) (.ref a),kN:=putK U.kN (sk p.nm) (.ref nd)},?_⟩ λb o e n=>f3 (s3 _ _ e) (nW n).1 (nW n).2.1 (nW n).2.2
   have GK:(D.keep st p).names=D.names++[p.nm]:=by
    show(D.made++[p]).map (·.nm)=_
    rw[aau];rfl
   exact{
    hd:=f3 y.hd LU RB (i9 y.hd v6 (λz=>by cases z))
    hm:=by
     show upd _ (U.ha st) _ U.m=_
     rw[e_ v3.symm];exact b_
    hn:=by
     show upd _ (U.ha st) _ U.n=_
     rw[e_ v4.symm,e_ x.mn.symm];exact b_
    hh:=f3 y.hh x.nh.symm x.mh.symm v5.symm
    mn:=x.mn
    mh:=x.mh
    nh:=x.nh
    wm:=x.wm
    wn:=x.wn
    wh:=x.wh
    km:=by rw[GK];exact qj x.km fresh _
    vm:=λq hq=>by
     show ∃b,iT (putK U.kM (sk p.nm) (.ref a)) (sk q.nm)=some (.ref b)/\_
     rw[kc]
     rcases ZU.mp hq with hq|hq
     ·obtain⟨b,w1,w2⟩:=y.vm q hq
      have qo:q.nm≠p.nm:=λz=>fresh (by rw[<-z];exact YO hq)
      rw[aac (λz=>qo (ack z))]
      exact⟨b,w1,f4 w2⟩
     ·rw[WO.mp hq,aan rfl]
      exact⟨a,rfl,f4 (LX.same s3)⟩
    kn:=by rw[GK];exact qj x.kn fresh _
    vn:=λt ht=>by
     rw[GK] at ht
     show ∃(b:Addr)(kv:List (Key×V))(l:List Str),iT (putK U.kN (sk p.nm) (.ref nd)) (sk t)=some (.ref b)/\¬W b/\_/\kv.map (·.1)=l.map sk/\l.Nodup/\∀u,u∈l↔u∈(if t=p.nm then qz D.iD p else D.iD t)
     rw[kc]
     by_cases e:t=p.nm
     ·rw[aan (by rw[e]),aan e]
      refine⟨nd,kv,l,rfl,VU,f3 e2 (nW VU).1 (nW VU).2.1 (nW VU).2.2,e3,e4,λu=>?_⟩
      rw[e5 u]
      unfold qz
      rw[aa0]
      exact⟨λ⟨z,h1,h2⟩=>⟨z,h1,XH.mpr h2⟩,λ⟨z,h1,h2⟩=>⟨z,h1,XH.mp h2⟩⟩
     ·rw[aac (λz=>e (ack z)),aac e]
      have NB:t∈D.names:=(ZU.mp ht).elim id λz=>absurd (WO.mp z) e
      obtain⟨b,YD,l',w1,w2,w3,w4⟩:=y.vn t NB
      exact⟨b,YD,l',w1,w2,f3 w3 (nW w2).1 (nW w2).2.1 (nW w2).2.2,w4⟩
    kh:=x.kh
    vh:=λt ht=>by
     obtain⟨h1,h2,h3,h4,h5,YD,h6,h7⟩:=y.vh t ht
     refine⟨h1,h2,h3,h4,h5,?_⟩
     show ∃kv:List (Key×V),_/\kv.map (·.1)=(if t=st then D.held st++[p.nm] else D.held t).map sk
     by_cases e:t=st
     ·subst e
      rw[aan rfl]
      exact⟨_,b_,qj v7 hpn _⟩
     ·rw[aac e]
      exact⟨YD,f3 h6 h4 h3 (λz=>e (x.inj t ht st hs z)),h7⟩
    inj:=x.inj
    dk:=λb hb=>by
     by_cases h1:b=U.ha st
     ·rw[h1];exact⟨_,b_⟩
     ·by_cases h2:b=U.m
      ·rw[h2,e_ v3.symm];exact⟨_,b_⟩
      ·by_cases h3:b=U.n
       ·rw[h3,e_ v4.symm,e_ x.mn.symm];exact⟨_,b_⟩
       ·obtain⟨kv,h⟩:=y.dk b hb
        exact⟨kv,f3 h h3 h2 h1⟩}
theorem IK(D:Dk)(s x:Str):D.take s x=xr D s (D.held s++D.nO s x):=rfl
theorem IL(D:Dk)(s x:Str):D.drop s x=xr D s ((D.held s).filter λy=>y≠x):=rfl
theorem IM(D:Dk)(s:Str)(l l':List Str):xr (xr D s l) s l'=xr D s l':=by
 unfold xr
 congr 1
 funext t
 show(if t=s then l' else(if t=s then l else D.held t))=_
 by_cases e:t=s
 ·rw[aan e,aan e]
 ·rw[aac e,aac e,aac e]
theorem IP(D:Dk)(s:Str):xr D s (D.held s)=D:=by
 cases D
 unfold xr
 congr 1
 funext t
 show(if t=s then _ else _)=_
 by_cases e:t=s
 ·rw[aan e,e]
 ·rw[aac e]
def PY(A:Ad):Sp:=λvs H Q E=>∃(d:Addr)(D:Dk)(W:Addr->Prop)(s c x:Str),vs=[.ref d,.str s,.str c,.str x]/\ip A H d D W/\Inv D/\xo D.made.length/\kW s/\kW c/\kW x/\
 (s∉D.stores->E (.ref A.iW) none H)/\(s∈D.stores->c∉D.stores->E (.ref A.iW) none H)/\(s∈D.stores->c∈D.stores->x∉D.held c->E (.ref A.j1) none H)/\
 (s∈D.stores->c∈D.stores->x∈D.held c->∀p H1 H',gs H H1->H1 p=none->H' p=some (.lst (gw (D.nO s x)))->ip A H' d (D.take s x) W->o6 W (upd H1 p (.lst (gw (D.nO s x)))) H'->Q (.ref p) H')
theorem Gr{D:Dk}(I:Inv D){s x:Str}(hx:x∈D.names):(D.nO s x).Nodup/\∀y∈D.nO s x,y∈D.names/\y∉D.held s:=by
 refine⟨?_,λy hy=>?_⟩
 ·refine ab5 aaV ?_
  rw[aaZ]
  refine⟨ab5 aaV I.nd,by simp,λa ha b hb z=>?_⟩
  rw[WO.mp hb] at z
  subst z
  exact I.BO hx (aah (aal.mp ha).2)
 ·obtain⟨h1,h2⟩:=aal.mp hy
  refine⟨?_,aah h2⟩
  rcases ZU.mp h1 with h|h
  ·exact(aal.mp h).1
  ·rw[WO.mp h];exact hx
theorem Hn(T:Txt mg)(O:Ok K mg A):il P w K mg base (tX P w) 3 A.yg A.yh ["self","store","source","patch"] (PY A):=by
 have ig:=@j2 P w K mg base A T O
 have jP:=@pF P w K mg base A T O
 have Dx:=@K1 P w K mg base A T O
 refine O.xm.f.rE lQ λjt A0 outer s H vs Q E hr h=>?_
 obtain⟨d,D,W,st,c,y,rfl,X,I,jS,hf,hfc,GJ,q1,q2,q3,q4⟩:=h
 obtain⟨U,x⟩:=id X
 have yX:D.made.length<=4000:=jS
 have sz:sizeLine=16777216:=aaw
 have QK:D.names.length=D.made.length:=by unfold Dk.names;rw[Ob]
 refine⟨_,(de (h_ (zI bx (pv 0) O.gP O.iX ig hr (a_ (pv 1) d_)))
   (de (h_ (zI bx (pv 0) O.gP O.iX ig hr (a_ (pv 2) d_)))
   (de (h_ (zI bx (pv 0) O.gP O.lq jP hr (a_ (pv 2) (a_ (pv 3) d_))))
   (de (k8 4 lQ (gG mT (zI bx (pv 0) O.gP O.Al Dx hr (a_ (pv 3) d_)) (iQ (a_ (pv 3) d_))))
   (de (Cw (j:=5) xX (gr oO).names [6] lQ.nd rfl rfl rfl (iq (pv 4)) rfl (by decide+kernel) (λ_ _ _ _=>(iK (i:=6) lQ.nd rfl (Or.inl rfl))) (λ_ _ _ _=>⟨_,qr (jv (lu (by exact iZ hr) (pv 6) (zJ hr (gK (pv 0) rfl) (pv 1)))),by(try simp only [lH]);rfl⟩) (λ_ _ _ _=>CD (pv 6)))
   (de (ix JV rfl (iq (pv 5)) (rF 6 lQ) (f_ (jB (by exact iZ hr) (zJ hr (gK (pv 0) rfl) (pv 1)) (pv 6) kG rfl)))
   (f_ (gZ (pv 5))))))))),?_⟩
 refine ZV ?_;intro _ _ _ _ _ _
 refine⟨_,rfl,d,U.dx,_,rfl,x.hd,jz,_,rfl,d,D,W,st,rfl,X,hf,λhs=>?_,λhs=>q1 hs⟩
 refine⟨_,rfl,d,U.dx,_,rfl,x.hd,jz,_,rfl,d,D,W,c,rfl,X,hfc,λhc=>?_,λhc=>q2 hs hc⟩
 refine⟨_,rfl,d,U.dx,_,rfl,x.hd,pE,_,rfl,_,rfl,d,D,W,c,y,rfl,X,hfc,GJ,hc,λhy=>?_,λhy=>q3 hs hc hy⟩
 have hyn:y∈D.names:=(I.kA c hc y hy).1
 have X_:(D.n5 y).length<=D.names.length:=aaN _ _
 refine⟨_,rfl,d,U.dx,_,rfl,x.hd,KU,_,rfl,d,D,W,y,rfl,X,GJ,jS,λh=>absurd hyn h,λ_ p rH=>?_⟩
 have s1:=(gs.refl H).new (o:=.lst (gw (D.n5 y))) rH
 refine⟨_,rfl,L2.jS,λb hb=>?_⟩
 have s2:=s1.new (o:=.lst [V.str y]) hb
 refine⟨p,b,_,_,rfl,rfl,iy hb b_,b_,by rw[Ob];show _+1<=_;omega,λwt Ru=>?_⟩
 have s3:=s2.new (o:=.lst (gw (D.n5 y)++[V.str y])) Ru
 have YE:(upd (upd (upd H p (.lst (gw (D.n5 y)))) b (.lst [V.str y])) wt (.lst (gw (D.n5 y)++[V.str y]))) wt=some (.lst (gw (D.n5 y++[y]))):=by rw[b_,ju]
 generalize upd (upd (upd H p (.lst (gw (D.n5 y)))) b (.lst [V.str y])) wt (.lst (gw (D.n5 y)++[V.str y]))=H3 at s3 YE
 have x3:=x.same s3
 obtain⟨v1,v2,v3,v4,v5,kv,v6,v7⟩:=x3.vh st hs
 refine⟨_,rfl,wt,rfl,⟨_,gO.of YE⟩,kR (K:=K) (a:=wt) (xs:=gw (D.n5 y++[y])) (by rw[Ob,XF];show _+1<=_;omega) (λi ys Z H4=>∃(v6:Option V)(zs:List Str),Z=[rr d,rs st,rs c,rs y,rr wt,none,v6]/\H4=H3/\ys=gw zs/\zs.length<=i/\zs=((D.n5 y++[y]).take i).filter λz=>z∉D.held st)
  ⟨none,[],rfl,rfl,rfl,WR _,rfl⟩ (by rintro _ _ _ _ _ ⟨_,zs,_,e,e2,e3,_⟩;rw[e,e2];exact⟨gO.of YE,by rw[Ob];exact e3⟩) ?_ ?_⟩
 ·rintro i v ys Z H4 hx ⟨YF,zs,rfl,rfl,rfl,e3,e4⟩
  obtain⟨z,hz,rfl⟩:=mx hx
  refine⟨_,rfl,_,rfl,d,A.gB,U.dx,_,_,rfl,x3.hd,O.gP,O.iB,lg _ _ _,_,rfl,U.h,.ref (U.ha st),rfl,?_,U.ha st,_,rfl,ja.k (k:=sk z) v6,_,rfl,?_⟩
  ·have:=ja.k (k:=sk st) x3.hh
   rw[v1] at this
   exact this
  ·rw[kq v7,take_snoc hz,aaH]
   by_cases hm:z∈D.held st
   ·rw[WV hm]
    refine jD ⟨_,_,rfl,rfl,rfl,by omega,?_⟩
    rw[e4,aab (by simpa using hm),aa2,aaM]
   ·rw[ZW hm]
    refine lX ⟨_,rfl,_,_,rfl,rfl,ju _ _,NU,?_⟩
    rw[e4,ZT (by simpa using hm),aa2]
 ·rintro ys Z H4 ⟨YF,zs,rfl,rfl,rfl,e3,e4⟩ cm Ro
  have e0:(gw (D.n5 y++[y])).length=(D.n5 y++[y]).length:=by rw[Ob]
  rw[e0,aaq] at e4
  have e4:zs=D.nO st y:=e4
  subst e4
  obtain⟨nc1,nc2⟩:=Gr (s:=st) I hyn
  have Oc:=sT nc1 λt ht=>(nc2 t ht).1
  have s4:=s3.new (o:=.lst (gw (D.nO st y))) Ro
  have x4:=x.same s4
  have LB:(upd H4 cm (.lst (gw (D.nO st y)))) cm=some (.lst (gw (D.nO st y))):=b_
  have Uz:¬W cm:=λz=>by obtain⟨kv,e⟩:=x4.dk cm z;rw[LB] at e;cases e
  have UA:=λH' a b c=>q4 hs hc hy cm H4 H' s3 Ro a b c
  generalize upd H4 cm (.lst (gw (D.nO st y)))=H5 at s4 x4 LB UA
  dsimp only [nE];refine LN ?_;intro _
  let Jv:=λ(i:Nat) (Z:St) (H6:Hp)=>∃(v6:Option V)(U':Dp),Z=[rr d,rs st,rs c,rs y,rr wt,rr cm,v6]/\NX A H6 d (xr D st (D.held st++(D.nO st y).take i)) W U'/\o6 W H5 H6
  refine⟨_,rfl,cm,rfl,⟨_,gO.of LB⟩,iV (K:=K) (a:=cm) (xs:=gw (D.nO st y)) Jv
   ⟨none,U,rfl,by rw[aby,aaM,IP];exact x4,λb o e _=>e⟩ (by rintro _ _ _ _ ⟨_,_,_,_,e⟩;exact gO.of (e _ _ LB Uz)) ?_ ?_⟩
  ·rintro i v Z H6 hx ⟨YF,U',rfl,x6,e6⟩
   obtain⟨z,hz,rfl⟩:=mx hx
   have hi:i<(D.nO st y).length:=(List.getElem?_eq_some_iff.mp hz).1
   obtain⟨w1,w2,w3,w4,w5,kv6,w6,w7⟩:=x6.vh st hs
   have w7:kv6.map (·.1)=(D.held st++(D.nO st y).take i).map sk:=by
    rw[w7]
    show(if st=st then _ else _:List Str).map sk=_
    rw[aan rfl]
   have Jo:=ko w7
   have hhl:=sT (I.vA st hs) λt ht=>(I.kA st hs t ht).1
   rw[XF,aaC] at Jo
   refine⟨_,rfl,d,A.gB,U'.dx,_,_,rfl,x6.hd,O.gP,O.iB,lg _ _ _,_,rfl,U'.h,.ref (U'.ha st),rfl,?_,_,rfl,U'.ha st,_,rfl,nN.k (k:=sk z) w6 (by omega),?_⟩
   ·have:=ja.k (k:=sk st) x6.hh
    rw[w1] at this
    exact this
   ·have UB:z∉D.held st++(D.nO st y).take i:=λhm=>by
     rcases ZU.mp hm with hm|hm
     ·exact(nc2 z (WW hz)).2 hm
     ·obtain⟨j,hj⟩:=aaG.mp hm
      have Jk:j<i:=by have:=(List.getElem?_eq_some_iff.mp hj).1;rw[aaC] at this;omega
      rw[abN,aan Jk] at hj
      have:=(abJ (List.getElem?_eq_some_iff.mp hj).1 nc1).mp (hj.trans hz.symm)
      omega
    have x7:=x6.xr (l:=D.held st++(D.nO st y).take (i+1)) (kv:=putK kv6 (sk z) (V.bl true)) hs (by rw[take_snoc hz,<-aaO];exact qj w7 UB _)
    rw[IM] at x7
    exact⟨_,U',rfl,x7,λb o e n=>by rw[e_ (λ(z:b=U'.ha st)=>n (by rw[z];exact w2))];exact e6 b o e n⟩
  ·rintro Z H6 ⟨YF,U',rfl,x6,e6⟩
   rw[Ob,aaq,<-IK] at x6
   exact⟨_,rfl,UA H6 (e6 _ _ LB Uz) ⟨U',x6⟩ e6⟩
def PZ(A:Ad):Sp:=λvs H Q E=>∃(d:Addr)(D:Dk)(W:Addr->Prop)(s x:Str),vs=[.ref d,.str s,.str x]/\ip A H d D W/\Inv D/\xo D.made.length/\kW s/\kW x/\(∀z∈D.names,kW z)/\
 (s∉D.stores->E (.ref A.iW) none H)/\(s∈D.stores->x∉D.held s->E (.ref A.j1) none H)/\(s∈D.stores->x∈D.held s->¬(∀z∈D.held s,x∉D.iD z)->E (.ref A.tH) none H)/\(s∈D.stores->x∈D.held s->(∀z∈D.held s,x∉D.iD z)->∀H',ip A H' d (D.drop s x) W->o6 W H H'->Q .jg H')
theorem M4(T:Txt mg)(O:Ok K mg A):il P w K mg base (tX P w) 2 A.yi A.yj ["self","store","patch"] (PZ A):=by
 have ig:=@j2 P w K mg base A T O
 have jP:=@pF P w K mg base A T O
 refine O.BU.f.rE vI λjt A0 outer s H vs Q E hr h=>?_
 obtain⟨d,D,W,st,y,rfl,X,I,jS,hf,GJ,hfz,q1,q2,q3,q5⟩:=h
 obtain⟨U,x⟩:=id X
 have yX:D.made.length<=4000:=jS
 have sz:sizeLine=16777216:=aaw
 refine⟨_,(de (h_ (zI bx (pv 0) O.gP O.iX ig hr (a_ (pv 1) d_)))
   (de (h_ (zI bx (pv 0) O.gP O.lq jP hr (a_ (pv 1) (a_ (pv 2) d_))))
   (de (y8 (ix JV rfl (CB (zJ hr (gK (pv 0) rfl) (pv 1))) (rF 3 vI) (f_ (iC (jv (ph (by exact iZ hr) (pv 2) (zJ hr (gK (pv 0) rfl) (pv 3)))) (f_ (Kj (ke bx O.ML (by rfl) (lI (iw (mU (pv 3)) (iw i_ (iw (mU (pv 2)) nX))))))) g_))))
   (f_ (h_ (JN (zJ hr (gK (pv 0) rfl) (pv 1)) (pv 2) ⟨rfl,rfl,rfl,rfl⟩)))))),?_⟩
 refine O5 ?_;intro _ _ _
 refine⟨_,rfl,d,U.dx,_,rfl,x.hd,jz,_,rfl,d,D,W,st,rfl,X,hf,λhs=>?_,λhs=>q1 hs⟩
 refine⟨_,rfl,d,U.dx,_,rfl,x.hd,pE,_,rfl,_,rfl,d,D,W,st,y,rfl,X,hf,GJ,hs,λhy=>?_,λhy=>q2 hs hy⟩
 obtain⟨v1,v2,v3,v4,v5,kv,v6,v7⟩:=x.vh st hs
 have hdg:ja H U.h (.str st) (some (.ref (U.ha st))):=by
  have:=ja.k (k:=sk st) x.hh
  rw[v1] at this
  exact this
 refine⟨_,rfl,d,A.gB,U.dx,_,_,rfl,x.hd,O.gP,O.iB,lg _ _ _,_,rfl,U.h,.ref (U.ha st),rfl,hdg,U.ha st,kv,rfl,v6,λo uz=>?_⟩
 have f:∀{b u},H b=some u->b≠U.ha st->upd H (U.ha st) (.nB o (.dK kv)) b=some u:=λ{b u} e n=>by rw[e_ n];exact e
 have Rl:d≠U.ha st:=i9 x.hd v6 (λz=>by cases z)
 let Jv:=λ(i:Nat) (Z:St) (H3:Hp)=>∃(v:Option V),Z=[rr d,rs st,rs y,v]/\H3=upd H (U.ha st) (.nB o (.dK kv))/\∀z∈(D.held st).take i,y∉D.iD z
 refine JZ (d:=U.ha st) (o:=o) (kvs:=kv) Jv ⟨none,rfl,rfl,λz hz=>by rw[aby] at hz;cases hz⟩ (by rintro _ _ _ ⟨_,_,e,_⟩;rw[e];exact b_) ?_ ?_
 ·rintro i k v Z H3 hi ⟨v0,rfl,rfl,Jh⟩
  obtain⟨z,hz,rfl⟩:=xq v7 hi
  have hzh:z∈D.held st:=WW hz
  have Uy:=(I.kA st hs z hzh).1
  obtain⟨a,ka,la,w1,w2,w3,w4,_,w6⟩:=x.vn z Uy
  refine⟨_,rfl,_,rfl,d,A.gB,U.dx,_,_,rfl,f x.hd Rl,O.gP,O.je,tN _ _ _,_,rfl,U.n,.ref a,rfl,?_,a,_,rfl,ja.k (k:=sk y) (f w3 (λz=>w2 (by rw[z];exact v2))),_,rfl,?_⟩
  ·have:=ja.k (k:=sk z) (f x.hn v4.symm)
   rw[w1] at this
   exact this
  ·rw[kq w4]
   by_cases VV:y∈D.iD z
   ·rw[WV ((w6 y).mpr VV)]
    refine lX ⟨U.ha st,o,_,b_,uz,?_⟩
    rw[wW v6]
    have Vx:=(hfz z Uy).1
    exact⟨_,rfl,_,rfl,Vx,_,rfl,Vx,⟨_,rfl,by decide+kernel,⟨_,rfl,_,rfl,GJ.1,_,rfl,GJ.1,λ_=>q3 hs hy λh=>h z hzh VV⟩⟩⟩
   ·rw[ZW (λh=>VV ((w6 y).mp h))]
    refine jD ⟨_,rfl,rfl,λt ht=>?_⟩
    rw[take_snoc hz] at ht
    rcases ZU.mp ht with ht|ht
    ·exact Jh t ht
    ·rw[WO.mp ht];exact VV
 ·rintro Z H3 ⟨v0,rfl,rfl,wu⟩
  have Jo:=ko v7
  rw[Jo,aaq] at wu
  have q4:=q5 hs hy wu
  refine⟨U.ha st,o,_,b_,uz,?_⟩
  rw[wW v6]
  have Du:∃v,iT kv (sk y)=some v:=by
   have:=kq v7 y
   rw[WV hy] at this
   exact Option.isSome_iff_exists.mp this
  obtain⟨vv,hvv⟩:=Du
  refine⟨_,rfl,d,A.gB,U.dx,_,_,rfl,x.hd,O.gP,O.iB,lg _ _ _,_,rfl,U.h,.ref (U.ha st),rfl,hdg,U.ha st,rfl,.inl ⟨_,.inl v6⟩,_,rfl,kv,sk y,vv,v6,rfl,hvv,?_⟩
  refine q4 _ ⟨U,?_⟩ λb u e n=>by rw[e_ (λ(z:b=U.ha st)=>n (by rw[z];exact v2))];exact e
  rw[IL]
  exact x.xr hs (Gq v7)
theorem Aw(l:List Str):Paired (λ(x:Str) (v:V)=>v=.str x) l (gw l):=by
 induction l with
 | nil=>exact .nil
 | cons x r ih=>exact .cons rfl ih
theorem M5{n:Nat}{K:Qqy}{H:Hp}{a c:Addr}{x y:List Str}(h1:gO K H a (gw x))(h2:gO K H c (gw y)):lY K H (n+1) (.ref a) (.ref c) (decide (x=y)):=
 lY.Mo (F:=λ(x:Str) (v:V)=>v=.str x) (λp q u v hu hv=>by subst hu hv;exact lY.Cy p q) h1 h2 (Aw x) (Aw y)
def NZ(n:Int):Int->List Int->Prop
 | _,[]=>True
 | l,p::r=>(l<=p/\p<n)/\NZ n (p+1) r
def K2(A:Ad):Sp:=λvs H Q E=>∃(a:Addr)(ps:List Int)(n:Int),vs=[.ref a,.int n]/\H a=some (.lst (ps.map V.int))/\(∀p∈ps,p.natAbs.log2<1920)/\(NZ n 0 ps->Q .jg H)/\(¬NZ n 0 ps->E (.ref A.ou) none H)
theorem yW(T:Txt mg)(O:Ok K mg A):il P w K mg base (tX P w) 1 A.su A.sv ["places","size"] (K2 A):=by
 refine O.vZ.f.rE ll λjt A0 outer s H vs Q E hr h=>?_
 obtain⟨a,ps,n,rfl,ha,QS,q,qe⟩:=h
 refine⟨_,(de (k8 2 ll gq)
   (f_ (ix JV rfl (iq (pv 0)) (rF 3 ll) (de (iC (ku (D9 Jz GZ (pv 2) (pv 3) (pv 1))) (f_ (ke bx O.Ky (by rfl) (lI (iw i_ (iw (J4 (pv 3)) (iw i_ nX)))))) g_)
   (f_ (k8 2 ll (gG iG (pv 3) gq))))))),?_⟩
 refine JT ?_;intro _
 let Jv:=λ(i:Nat) (Z:St) (H2:Hp)=>∃(l:Int)(v:Option V),Z=[rr a,ri n,ri l,v]/\H2=H/\(NZ n 0 ps↔NZ n l (ps.drop i))
 refine⟨_,rfl,a,rfl,⟨_,gO.of ha⟩,iV (K:=K) (a:=a) (xs:=ps.map V.int) Jv ⟨0,none,rfl,rfl,Iff.rfl⟩ (by rintro _ _ _ _ ⟨_,_,_,e,_⟩;rw[e];exact gO.of ha) ?_ ?_⟩
 ·rintro i v Z H2 hx ⟨l,v0,rfl,rfl,e⟩
  rw[aam] at hx
  obtain⟨p,hp,rfl⟩:=Option.map_eq_some_iff.mp hx
  have hi:i<ps.length:=(List.getElem?_eq_some_iff.mp hp).1
  have hd:ps.drop i=p::ps.drop (i+1):=by rw[aaP hi];congr 1;exact(List.getElem?_eq_some_iff.mp hp).2
  rw[hd] at e
  have hl:=QS p (WW hp)
  refine⟨_,rfl,_,rfl,_,_,rfl,rfl,_,rfl,?_⟩
  refine kF (λh1=>?_) (λh1=>?_)
  ·have h1:l<=p:=by simpa using h1
   refine⟨_,rfl,_,_,rfl,rfl,_,rfl,?_⟩
   refine kF (λh2=>?_) (λh2=>?_)
   ·have h2:¬p<n:=by simpa using h2
    refine⟨_,rfl,by decide+kernel,⟨_,rfl,_,rfl,hl,_,rfl,?_⟩⟩
    exact⟨aai (PyProof.Rows.int_text_len_1921 hl) (by decide),⟨_,rfl,by decide+kernel,λ_=>qe λz=>h2 (e.mp z).1.2⟩⟩
   ·have h2:p<n:=by simpa using h2
    refine⟨_,rfl,_,_,rfl,rfl,_,_,rfl,rfl,e.trans ⟨λz=>z.2,λz=>⟨⟨h1,h2⟩,z⟩⟩⟩
  ·have h1:¬l<=p:=by simpa using h1
   refine⟨_,rfl,?_⟩
   refine⟨_,rfl,by decide+kernel,⟨_,rfl,_,rfl,hl,_,rfl,?_⟩⟩
   exact⟨aai (PyProof.Rows.int_text_len_1921 hl) (by decide),⟨_,rfl,by decide+kernel,λ_=>qe λz=>h1 (e.mp z).1.1⟩⟩
 ·rintro Z H2 ⟨l,v0,rfl,rfl,e⟩
  rw[Ob,aci] at e
  exact q (e.mpr trivial)
def SU(A:Ad):Sp:=λvs H Q E=>∃(d t:Addr)(D:Dk)(W:Addr->Prop)(s x f:Str)(texts:List Str),vs=[.ref d,.str s,.str x,.str f,.ref t]/\ip A H d D W/\Inv D/\Small D.made/\(D.made.flatMap (·.iE)).length<=1000/\kW s/\kW x/\kW f/\H t=some (.lst (gw texts))/\texts.length<=1000/\
 (s∉D.stores->E (.ref A.iW) none H)/\
 (s∈D.stores->¬(Good x/\Good f)->∀H',gs H H'->E (.ref A.jF) none H')/\
 (s∈D.stores->Good x->Good f->x∈D.names->∀H',gs H H'->E (.ref A.js) none H')/\
 (s∈D.stores->Good x->Good f->x∉D.names->D.oz s f≠[]->∀H',gs H H'->E (.ref A.ly) none H')/\
 (s∈D.stores->Good x->Good f->x∉D.names->D.oz s f=[]->(D.row s f).map (·.tx)=texts->∀H',gs H H'->E (.ref A.uK) none H')/\
 (s∈D.stores->Good x->Good f->x∉D.names->D.oz s f=[]->(D.row s f).map (·.tx)≠texts->∀H',ip A H' d (D.keep s (mG x f (D.row s f) texts)) W->o6 W H H'->Q .jg H')
theorem lB{x f:Str}:(∀y∈[x,f],Good y)↔Good x/\Good f:=by
 constructor
 ·exact λh=>⟨h x (by simp),h f (by simp)⟩
 ·rintro⟨h1,h2⟩ y hy
  rcases XH.mp hy with z|z
  ·rw[z];exact h1
  ·rw[WO.mp z];exact h2
theorem wg{D:Dk}(I:Inv D){s f x:Str}(hs:s∈D.stores)(texts:List Str):∀y∈ir (mG x f (D.row s f) texts),y∈D.names:=by
 intro y hy
 unfold ir at hy
 rcases ZU.mp hy with hy|hy
 ·obtain⟨m,hm,rfl⟩:=aaA.mp hy
  obtain⟨hm,hn⟩:=aal.mp hm
  have hn:m.1≠x:=aah hn
  have fin:m∈(D.row s f).map (·.nm)->m.1∈D.names:=λh=>by
   obtain⟨l,hl,rfl⟩:=aaA.mp h
   obtain⟨p,h1,_,h3⟩:=I.qA hl
   have hp:=(Inv.i3.mp h1).1
   rw[mX (I.DU p hp) (YO h3)]
   exact YO hp
  rcases ZU.mp hm with hm|hm
  ·obtain⟨l,hl,rfl⟩:=aaA.mp hm
   exact fin (YO (aal.mp hl).1)
  ·obtain⟨l,hl,hm⟩:=aa0.mp hm
   have Qy:l.up=some m\/l.lo=some m:=by
    rcases ZU.mp hm with hm|hm
    ·exact .inl (by simpa using hm)
    ·exact .inr (by simpa using hm)
   rcases y_ texts 0 0 none l hl m Qy with(z|⟨t,z⟩)|z
   ·cases z
   ·obtain⟨q,_,_,l',DW,rfl⟩:=CJ z
    exact fin (YO (WW DW))
   ·rw[vz] at z
    obtain⟨j,_,rfl⟩:=aaA.mp z
    exact absurd rfl hn
 ·cases hy
theorem wj{x f:Str}{row:List Ln}{texts:List Str}:(mG x f row texts).iE.length<=texts.length/\(mG x f row texts).jx.length<=row.length:=by
 have rise:=tG (row.map (·.tx)) texts
 rw[Ob] at rise
 have h:=G_ rise x
 refine⟨by show(kK x texts _).length<=_;omega,?_⟩
 show((row.filter _).map _).length<=_
 rw[Ob]
 exact aaN _ _
theorem IQ(T:Txt mg)(O:Ok K mg A):il P w K mg base (tX P w) 6 A.ui A.uj ["self","store","patch","file","texts"] (SU A):=by
 have ig:=@j2 P w K mg base A T O
 have j4:=@qS P w K mg base A T O
 have jk:=@o8 P w K mg base A T O
 have k7:=@sR P w K mg base A T O
 have xH:=@we P w K mg base A T O
 have mQ:=@Dg P w K mg base A T O
 refine O.yC.f.rE og λjt A0 outer s H vs Q E hr h=>?_
 obtain⟨d,t,D,W,st,y,f,texts,rfl,X,I,sm,YG,wD,GJ,QT,ht,QA,q1,q2,q3,q4,q5,q6⟩:=h
 obtain⟨U,x⟩:=id X
 have sz:sizeLine=16777216:=aaw
 have DV:(D.row st f).length<=1000:=aai (I.vC st f) YG
 refine⟨_,(de (h_ (zI bx (pv 0) O.gP O.iX ig hr (a_ (pv 1) d_)))
   (de (h_ (zI bx (pv 0) O.gP O.lV j4 hr (a_ (pv 2) (a_ (iQ (a_ (pv 3) d_)) d_))))
   (de (k8 5 og (zI bx (pv 0) O.gP O.k_ jk hr (a_ (pv 1) (a_ (pv 3) d_))))
   (de (iC (vg (D_ (pv 5) O.j8 O.jN.t k7 (hr.mono (by decide)) O.jN.b .nil pR) (λ_=>rfl)) (f_ (ke bx O.EW (by rfl) (lI (iw i_ (iw (mU (pv 3)) (iw i_ nX)))))) g_)
   (de (iC (ij (O1 3 (by exact LM hr)) (xT ue (gr my).names [6] rfl (iq (gK (pv 5) rfl)) rfl (by decide+kernel) (λ_ _ _ _=>(iK (i:=6) og.nd rfl (Or.inl rfl))) (λ_ _ _ _=>nV) (λ_ _ _ _=>CD (gK (pv 6) rfl))) (pv 4) (iP _)) (f_ (ke bx O.Kz (by rfl) (lI (iw i_ (iw (mU (pv 3)) (iw i_ nX)))))) g_)
   (f_ (h_ (zH (pv 0) O.gP O.tI mQ hr (a_ (pv 1) (a_ (oM O.sJ xH hr (a_ (pv 2) (a_ (pv 3) (a_ (gK (pv 5) rfl) (a_ (pv 4) d_))))) d_)))))))))),?_⟩
 refine Sh ?_;intro _ _ _ _ _
 refine⟨_,rfl,d,U.dx,_,rfl,x.hd,jz,_,rfl,d,D,W,st,rfl,X,wD,λhs=>?_,λhs=>q1 hs⟩
 refine⟨_,rfl,d,U.dx,_,rfl,x.hd,qQ,_,rfl,_,rfl,L2.jS,λl hl=>?_⟩
 have s1:gs H (upd H l (.lst [V.str f])):=(gs.refl H).new hl
 refine⟨d,l,D,W,y,[f],rfl,X.same s1,b_,by show 1<=1000;decide,λz hz=>?_,λh H' s'=>q2 hs (λg=>h (lB.mpr g)) H' (s1.trans s'),λh hn H' s'=>q3 hs (lB.mp h).1 (lB.mp h).2 hn H' (s1.trans s'),λh hn H2 s2=>?_⟩
 ·rcases XH.mp hz with z|z
  ·rw[z];exact GJ
  ·rw[WO.mp z];exact QT
 obtain⟨gy,gf⟩:=lB.mp h
 have DX:=s1.trans s2
 have X2:=X.same DX
 refine⟨_,rfl,d,U.dx,_,rfl,DX _ _ x.hd,o7,_,rfl,_,rfl,d,D,W,st,f,rfl,X2,wD,sm,I,λh=>absurd hs h,λ_ p H3 s3 rH sg=>?_⟩
 obtain⟨px,ah,ln,g1,g2,⟨as,g3,g4⟩⟩:=id sg
 have ND:=DX.trans s3
 have hlen:=aak g4
 refine⟨_,rfl,p,px,_,rfl,g1,KP ah ln,p,_,_,rfl,sg,KY I st f,aai DV (by decide),λr H4 vs s4 rG xF Ce=>?_⟩
 have Oi:=ND.trans s4
 have Og:=aak Ce
 by_cases hq:D.oz st f=[]
 case neg=>
  have YH:vs≠[]:=λz=>hq (by
   have e:(ki (Ah (gR (D.pj st) f)) (D.row st f)).length=0:=by rw[Og,z];rfl
   exact aaK.mp e)
  refine⟨true,.inl ⟨_,gO.of xF,by simpa using YH⟩,lX ?_⟩
  exact⟨_,rfl,by decide+kernel,⟨_,rfl,_,rfl,QT.1,_,rfl,QT.1,⟨_,rfl,by decide+kernel,λ_=>q4 hs gy gf hn hq _ Oi⟩⟩⟩
 have YH:vs=[]:=by
  have e:(ki (Ah (gR (D.pj st) f)) (D.row st f)).length=0:=by rw[show ki (Ah (gR (D.pj st) f)) (D.row st f)=[] from hq];rfl
  rw[Og] at e
  exact aaK.mp e
 refine⟨false,.inl ⟨_,gO.of xF,by rw[YH];rfl⟩,jD ?_⟩
 have g14:=s4 _ _ g1
 have YI:=s4 _ _ g3
 let Jv:=λ(i:Nat) (ys:List V) (Z:St) (H5:Hp)=>∃(v6:Option V),Z=[rr d,rs st,rs y,rs f,rr t,rr p,v6]/\H5=H4/\ys=gw (((D.row st f).take i).map (·.tx))
 refine⟨_,rfl,p,A.ie,px,_,_,rfl,g14,O.j8,O.iu,lA ah ln,ln,rfl,⟨_,gO.of YI⟩,kR (K:=K) (a:=ln) (xs:=as.map V.ref) (by rw[Ob];omega) Jv
  ⟨none,rfl,rfl,rfl⟩ (by rintro _ _ _ _ _ ⟨_,_,e,e2⟩;rw[e,e2];exact⟨gO.of YI,by rw[Ob,Ob,aaC];omega⟩) ?_ ?_⟩
 ·rintro i v ys Z H5 hx ⟨v6,rfl,rfl,rfl⟩
  obtain⟨b,hb,rfl⟩:=j9 hx
  obtain⟨l2,HH,dx,vn,vu,vl,k1,k2,k3,k4⟩:=ik g4 hb
  refine⟨_,rfl,b,A.gW,dx,_,_,rfl,s4 _ _ k1,O.iR,O.jO,An,_,rfl,rfl,?_⟩
  rw[take_snoc HH,aau,ju]
  rfl
 ·rintro ys Z H5 ⟨v6,rfl,rfl,rfl⟩ o VQ
  rw[Ob,hlen,aaq]
  have s5:=Oi.new (o:=.lst (gw ((D.row st f).map (·.tx)))) VQ
  have NF:gs H5 (upd H5 o (.lst (gw ((D.row st f).map (·.tx))))):=(gs.refl H5).new VQ
  refine⟨_,rfl,_,⟨o,t,rfl,rfl⟩,M5 (gO.of b_) (gO.of (s5 _ _ ht)),_,rfl,?_⟩
  by_cases he:(D.row st f).map (·.tx)=texts
  ·rw[WV he]
   refine lX ?_
   exact⟨_,rfl,by decide+kernel,⟨_,rfl,_,rfl,QT.1,_,rfl,QT.1,⟨_,rfl,by decide+kernel,λ_=>q5 hs gy gf hn hq he _ s5⟩⟩⟩
  ·rw[ZW he]
   refine jD ?_
   have X5:=X.same s5
   refine⟨_,rfl,d,U.dx,_,rfl,s5 _ _ x.hd,Dd,_,rfl,_,rfl,_,rfl,_,rfl,p,A.ie,px,_,_,rfl,NF _ _ g14,O.j8,O.iu,lA ah ln,_,rfl,y,f,ln,t,D.row st f,texts,rfl,⟨as,NF _ _ YI,Paired.jh g4 λ_ _ z=>(z.same s4).same NF⟩,s5 _ _ ht,DV,QA,λpa H6 s6 hpa0 YJ=>?_⟩
   have UC:=s5.trans s6
   obtain⟨cl1,cl2⟩:=wj (x:=y) (f:=f) (row:=D.row st f) (texts:=texts)
   refine⟨d,pa,D,W,st,_,rfl,X.same UC,I,sm.many,hs,YJ,hn,aai cl1 (aai QA (by decide)),aai cl2 (aai DV (by decide)),wg I hs texts,λH7 X7 s7=>?_⟩
   exact q6 hs gy gf hn hq he H7 X7 λb o e n=>s7 b o (UC _ _ e) n
def P0(A:Ad):Sp:=λvs H Q E=>∃(d:Addr)(D:Dk)(W:Addr->Prop)(s x o:Str),vs=[.ref d,.str s,.str x,.str o]/\ip A H d D W/\Inv D/\xo D.made.length/\kW s/\kW x/\kW o/\
 (s∉D.stores->E (.ref A.iW) none H)/\(s∈D.stores->¬Good x->∀H',gs H H'->E (.ref A.jF) none H')/\(s∈D.stores->Good x->x∈D.names->∀H',gs H H'->E (.ref A.js) none H')/\
 (s∈D.stores->Good x->x∉D.names->o∉D.held s->∀H',gs H H'->E (.ref A.j1) none H')/\
 (s∈D.stores->Good x->x∉D.names->o∈D.held s->∀H',ip A H' d (D.keep s ⟨x,none,[],[],some o⟩) W->o6 W H H'->Q .jg H')
theorem Ax{x:Str}:(∀y∈[x],Good y)↔Good x:=⟨λh=>h x (by simp),λh y hy=>by rw[WO.mp hy];exact h⟩
theorem M6(T:Txt mg)(O:Ok K mg A):il P w K mg base (tX P w) 4 A.ye A.yf ["self","store","patch","other"] (P0 A):=by
 have ig:=@j2 P w K mg base A T O
 have j4:=@qS P w K mg base A T O
 have jP:=@pF P w K mg base A T O
 have j3:=@pC P w K mg base A T O
 have mQ:=@Dg P w K mg base A T O
 refine O.BS.f.rE CQ λjt A0 outer s H vs Q E hr h=>?_
 obtain⟨d,D,W,st,y,ot,rfl,X,I,jS,wD,GJ,hfo,q1,q2,q3,q4,q5⟩:=h
 obtain⟨U,x⟩:=id X
 refine⟨_,(de (h_ (zI bx (pv 0) O.gP O.iX ig hr (a_ (pv 1) d_)))
   (de (h_ (zI bx (pv 0) O.gP O.lV j4 hr (a_ (pv 2) (a_ (iQ d_) d_))))
   (de (h_ (zI bx (pv 0) O.gP O.lq jP hr (a_ (pv 1) (a_ (pv 3) d_))))
   (f_ (h_ (zH (pv 0) O.gP O.tI mQ hr (a_ (pv 1) (a_ (vp O.C0 j3 (hr.mono (by decide)) (by rfl) O.C1 O.lU.b .nil pR (a_ (pv 2) (a_ uv (a_ (iQ d_) (a_ (iQ d_) (a_ (pv 3) d_)))))) d_)))))))),?_⟩
 refine O5 ?_;intro _ _ _
 refine⟨_,rfl,d,U.dx,_,rfl,x.hd,jz,_,rfl,d,D,W,st,rfl,X,wD,λhs=>?_,λhs=>q1 hs⟩
 refine⟨_,rfl,d,U.dx,_,rfl,x.hd,qQ,_,rfl,L2.jS,λl hl=>?_⟩
 have s1:gs H (upd H l (.lst [])):=(gs.refl H).new hl
 refine⟨d,l,D,W,y,[],rfl,X.same s1,b_,by show 0<=1000;decide,λz hz=>by rw[WO.mp hz];exact GJ,λh H' s'=>q2 hs (λg=>h (Ax.mpr g)) H' (s1.trans s'),λh hn H' s'=>q3 hs (Ax.mp h) hn H' (s1.trans s'),λh hn H2 s2=>?_⟩
 have gy:=Ax.mp h
 have DX:=s1.trans s2
 refine⟨_,rfl,d,U.dx,_,rfl,DX _ _ x.hd,pE,_,rfl,_,rfl,d,D,W,st,ot,rfl,X.same DX,wD,hfo,hs,λho=>?_,λho=>q4 hs gy hn ho _ DX⟩
 refine⟨_,rfl,d,U.dx,_,rfl,DX _ _ x.hd,Dd,_,rfl,_,rfl,L2.jS,λa ha=>⟨L2.jS,λb hb=>⟨_,rfl,?_⟩⟩⟩
 have s3:=DX.new (o:=.lst []) ha
 have s4:=s3.new (o:=.lst []) hb
 intro o dx no QM Yp
 refine⟨o,dx,_,_,_,_,_,rfl,b_,λH5 r6 r7=>⟨rfl,?_⟩⟩
 have s5:gs (upd (upd H2 a (.lst [])) b (.lst [])) H5:=λc u ec=>by
  rw[r6 c (gv ec no),e_ (gv ec no),e_ (gv ec QM)]
  exact ec
 have s15:=s4.trans s5
 have pt:oA A H5 o ⟨y,none,[],[],some ot⟩:=⟨dx,_,a,b,.str ot,r7,rfl,⟨[],s5 _ _ (iy hb b_),.nil⟩,⟨[],s5 _ _ b_,.nil⟩,rfl⟩
 refine⟨d,o,D,W,st,_,rfl,X.same s15,I,jS,hs,pt,hn,aaI _,aaI _,λz hz=>?_,λH7 X7 s7=>?_⟩
 ·have:z=ot:=by simpa[ir,named] using hz
  rw[this];exact(I.kA st hs ot ho).1
 ·exact q5 hs gy hn ho H7 X7 λb o e n=>s7 b o (s15 _ _ e) n
def SV(A:Ad):Sp:=λvs H Q E=>∃(d t:Addr)(D:Dk)(W:Addr->Prop)(s x f:Str)(ps:List Int),vs=[.ref d,.str s,.str x,.str f,.ref t]/\ip A H d D W/\Inv D/\Small D.made/\kW s/\kW x/\kW f/\H t=some (.lst (ps.map V.int))/\ps.length<=1000/\(∀p∈ps,p.natAbs.log2<1920)/\
 (s∉D.stores->E (.ref A.iW) none H)/\
 (s∈D.stores->¬(Good x/\Good f)->∀H',gs H H'->E (.ref A.jF) none H')/\
 (s∈D.stores->Good x->Good f->x∈D.names->∀H',gs H H'->E (.ref A.js) none H')/\
 (s∈D.stores->Good x->Good f->x∉D.names->¬NZ (D.row s f).length 0 ps->∀H',gs H H'->E (.ref A.ou) none H')/\
 (s∈D.stores->Good x->Good f->x∉D.names->ps=[]->∀H',gs H H'->E (.ref A.uK) none H')/\
 (s∈D.stores->Good x->Good f->x∉D.names->NZ (D.row s f).length 0 ps->ps≠[]->∀H',ip A H' d (D.keep s ⟨x,some f,[],ps.filterMap λp=>((D.row s f)[p.toNat]?).map (·.nm),none⟩) W->o6 W H H'->Q .jg H')
theorem Ho{n:Int}:∀{l:Int} {ps:List Int},0<=l->NZ n l ps->∀p∈ps,0<=p/\p<n
 | _,[],_,_,p,hp=>by cases hp
 | l,q::r,h0,h,p,hp=>by
  obtain⟨⟨h1,h2⟩,h3⟩:=h
  rcases XH.mp hp with rfl|hp
  ·exact⟨by omega,h2⟩
  ·exact Ho (by omega) h3 p hp
theorem P1(T:Txt mg)(O:Ok K mg A):il P w K mg base (tX P w) 6 A.Aa A.Ab ["self","store","patch","file","places"] (SV A):=by
 have ig:=@j2 P w K mg base A T O
 have j4:=@qS P w K mg base A T O
 have jk:=@o8 P w K mg base A T O
 have AG:=@yW P w K mg base A T O
 have j3:=@pC P w K mg base A T O
 have mQ:=@Dg P w K mg base A T O
 refine O.EU.f.rE se λjt A0 outer s H vs Q E hr h=>?_
 obtain⟨d,t,D,W,st,y,f,ps,rfl,X,I,sm,wD,GJ,QT,ht,QA,QS,q1,q2,q3,q4,q5,q6⟩:=h
 obtain⟨U,x⟩:=id X
 have sz:sizeLine=16777216:=aaw
 have DV:(D.row st f).length<=4000:=aai (I.vC st f) sm.iE
 refine⟨_,(de (h_ (zI bx (pv 0) O.gP O.iX ig hr (a_ (pv 1) d_)))
   (de (h_ (zI bx (pv 0) O.gP O.lV j4 hr (a_ (pv 2) (a_ (iQ (a_ (pv 3) d_)) d_))))
   (de (mS (i:=5) se.nd rfl (Or.inr rfl) (gK (zI bx (pv 0) O.gP O.k_ jk hr (a_ (pv 1) (a_ (pv 3) d_))) rfl))
   (de (h_ (WU bx O.vZ AG hr (a_ (pv 4) (a_ (gM gD (by rfl) T.jC aav (a_ (pv 5) d_)) d_))))
   (de (iC (ku (vg (pv 4) (λ_=>rfl))) (f_ (ke bx O.Kz (by rfl) i_)) g_)
   (f_ (h_ (zH (pv 0) O.gP O.tI mQ hr (a_ (pv 1) (a_ (vp O.C0 j3 (hr.mono (by decide)) (by rfl) O.C1 O.lU.b .nil pR (a_ (pv 2) (a_ (pv 3) (a_ (iQ d_) (a_ (xT zT (gr qH).names [6] rfl (iq (pv 4)) rfl (by decide+kernel) (λ_ _ _ _=>(iK (i:=6) se.nd rfl (Or.inl rfl))) (λ_ _ _ _=>nV) (λ_ _ _ _=>CD (gK (lC (pv 5) (pv 6)) rfl))) (a_ uv d_)))))) d_)))))))))),?_⟩
 refine Sh ?_;intro _ _ _ _ _
 refine⟨_,rfl,d,U.dx,_,rfl,x.hd,jz,_,rfl,d,D,W,st,rfl,X,wD,λhs=>?_,λhs=>q1 hs⟩
 refine⟨_,rfl,d,U.dx,_,rfl,x.hd,qQ,_,rfl,_,rfl,L2.jS,λl hl=>?_⟩
 have s1:gs H (upd H l (.lst [V.str f])):=(gs.refl H).new hl
 refine⟨d,l,D,W,y,[f],rfl,X.same s1,b_,by show 1<=1000;decide,λz hz=>?_,λh H' s'=>q2 hs (λg=>h (lB.mpr g)) H' (s1.trans s'),λh hn H' s'=>q3 hs (lB.mp h).1 (lB.mp h).2 hn H' (s1.trans s'),λh hn H2 s2=>?_⟩
 ·rcases XH.mp hz with z|z
  ·rw[z];exact GJ
  ·rw[WO.mp z];exact QT
 obtain⟨gy,gf⟩:=lB.mp h
 have DX:=s1.trans s2
 have X2:=X.same DX
 refine⟨_,rfl,d,U.dx,_,rfl,DX _ _ x.hd,o7,_,rfl,_,rfl,d,D,W,st,f,rfl,X2,wD,sm,I,λh=>absurd hs h,λ_ p H3 s3 rH ⟨px,ah,ln,g1,g2,⟨as,g3,g4⟩⟩=>?_⟩
 have ND:=DX.trans s3
 have hlen:=aak g4
 have el:((as.map V.ref).length:Int)=((D.row st f).length:Int):=by rw[Ob,hlen]
 refine⟨p,A.ie,px,_,_,rfl,g1,O.j8,O.iu,lA ah ln,?_⟩
 refine⟨_,rfl,_,rfl,ln,_,rfl,.inl (gO.of g3),?_⟩
 rw[el]
 refine⟨t,ps,_,rfl,ND _ _ ht,QS,λok=>?_,λnok=>q4 hs gy gf hn nok _ ND⟩
 by_cases VW:ps=[]
 ·refine⟨_,rfl,false,.inl ⟨_,gO.of (ND _ _ ht),by rw[VW];rfl⟩,?_⟩
  exact q5 hs gy gf hn VW _ ND
 ·refine⟨_,rfl,true,.inl ⟨_,gO.of (ND _ _ ht),by simpa using VW⟩,?_⟩
  refine jD ?_
  refine⟨_,rfl,d,U.dx,_,rfl,ND _ _ x.hd,Dd,_,rfl,_,rfl,_,rfl,L2.jS,λa ha=>?_⟩
  have s4:=ND.new (o:=.lst []) ha
  have QU:gs H3 (upd H3 a (.lst [])):=(gs.refl H3).new ha
  have Oj:(upd H3 a (.lst [])) a=some (.lst []):=b_
  generalize upd H3 a (.lst [])=H4 at s4 QU Oj
  let Jv:=λ(i:Nat) (ys:List V) (Z:St) (H5:Hp)=>∃(v6:Option V),Z=[rr d,rs st,rs y,rs f,rr t,rr ln,v6]/\H5=H4/\ys.length<=i/\Paired (lD H3) ys ((ps.take i).filterMap λp=>((D.row st f)[p.toNat]?).map (·.nm))
  refine⟨_,rfl,t,rfl,⟨_,gO.of (s4 _ _ ht)⟩,kR (K:=K) (a:=t) (xs:=ps.map V.int) (by rw[Ob];omega) Jv
   ⟨none,rfl,rfl,WR _,.nil⟩ (by rintro _ _ _ _ _ ⟨_,_,e,e2,_⟩;rw[e];exact⟨gO.of (s4 _ _ ht),e2⟩) ?_ ?_⟩
  ·rintro i v ys Z H5 hx ⟨v6,rfl,rfl,e2,e3⟩
   rw[aam] at hx
   obtain⟨pl,qU,rfl⟩:=Option.map_eq_some_iff.mp hx
   obtain⟨b1,b2⟩:=Ho (by decide) ok pl (WW qU)
   have jT:pl.toNat<(D.row st f).length:=by omega
   have Bs:(D.row st f)[pl.toNat]?=some (D.row st f)[pl.toNat]:=TH jT
   obtain⟨b,hb,dx,vn,vu,vl,k1,⟨nt,rfl,k2⟩,k3,k4⟩:=Ar g4 Bs
   refine⟨_,rfl,_,rfl,ln,_,_,_,rfl,rfl,gO.of (QU _ _ g3),gJ (j:=pl.toNat) (by omega) hb,b,A.gW,dx,_,_,rfl,QU _ _ k1,O.iR,O.gT,i6,?_⟩
   refine⟨_,rfl,rfl,NU,?_⟩
   rw[take_snoc qU,abO,abt,Bs]
   exact iz e3 ⟨nt,rfl,k2⟩
  ·rintro ys Z H5 ⟨v6,rfl,rfl,e2,e3⟩ c hc
   rw[Ob,aaq] at e3
   have s5:=s4.new (o:=.lst ys) hc
   intro o dx no QM Yp
   refine⟨o,dx,_,_,_,_,_,rfl,b_,λH6 r6 r7=>⟨rfl,?_⟩⟩
   have s6:gs (upd H5 c (.lst ys)) H6:=λb u ec=>by
    rw[r6 b (gv ec no),e_ (gv ec no),e_ (gv ec QM)]
    exact ec
   have UC:=s5.trans s6
   have s36:gs H3 H6:=(QU.new hc).trans s6
   have pt:oA A H6 o ⟨y,some f,[],ps.filterMap λp=>((D.row st f)[p.toNat]?).map (·.nm),none⟩:=⟨dx,_,a,c,.jg,r7,rfl,⟨[],s6 _ _ (iy hc Oj),.nil⟩,⟨ys,s6 _ _ b_,Paired.jh e3 λ_ _ z=>z.same s36⟩,rfl⟩
   have Oc:(ps.filterMap λp=>((D.row st f)[p.toNat]?).map (·.nm)).length<=4000:=aai (List.length_filterMap_le _ _) (by omega)
   refine⟨d,o,D,W,st,_,rfl,X.same UC,I,sm.many,hs,pt,hn,aaI _,Oc,λz hz=>?_,λH7 X7 s7=>q6 hs gy gf hn ok VW H7 X7 λb o e n=>s7 b o (UC _ _ e) n⟩
   unfold ir at hz
   rcases ZU.mp hz with hz|hz
   ·obtain⟨m,hm,rfl⟩:=aaA.mp hz
    have hm:=(aal.mp hm).1
    have hm:m∈(ps.filterMap λp=>((D.row st f)[p.toNat]?).map (·.nm)):=by simpa[named] using hm
    obtain⟨pl,_,qU⟩:=ab3.mp hm
    obtain⟨l',DW,rfl⟩:=Option.map_eq_some_iff.mp qU
    obtain⟨q,h1,_,h3⟩:=I.qA (WW DW)
    have hq:=(Inv.i3.mp h1).1
    rw[mX (I.DU q hq) (YO h3)]
    exact YO hq
   ·cases hz
def cellAt(ns:List Int)(k:Int):Int:=(ns[k.toNat]?).getD 0
def Dh(i:Int):Str:=⟨#[(l7.cps[(i%36).toNat]?).getD 0]⟩
noncomputable def kP(cell k:Int):Nat->Str
 | 0=>Str.ofString ""
 | j+1=>kP cell k j++(if(j:Int)=cell/12%(1+cell%12) then Dh (k+cell/144) else Dh (cell/144+5*(j:Int)+cell/5184%2*k*7))
noncomputable def nameOf(cell k:Int):Str:=kP cell k (1+cell%12).toNat
theorem Di:l7.length=36:=by decide+kernel
theorem K3:l7.cps.size=36:=Di
theorem Dj(a b:Str):(a++b).cps.toList=a.cps.toList++b.cps.toList:=Array.toList_append
theorem Hq(a b:Str):(a++b).length=a.length+b.length:=Array.size_append
theorem zd(i:Int):∃c,Cn l7.cps.toList (i%36)=some c/\Dh i=⟨#[c]⟩/\c∈l7.cps.toList:=by
 have b:=mod_lt i 36 (by decide)
 obtain⟨c,e,ev⟩:=rN (xs:=l7.cps.toList) b.1 (by rw[aaL,K3];exact b.2)
 rw[aa7] at ev
 exact⟨c,e,by unfold Dh;rw[ev];rfl,WW (i:=(i%36).toNat) (by rw[aa7];exact ev)⟩
theorem ze(cell k:Int):∀j,(kP cell k j).length=j/\∀c∈(kP cell k j).cps.toList,c∈l7.cps.toList
 | 0=>⟨by unfold kP;decide+kernel,λc hc=>by
   have:(kP cell k 0).cps.toList=[]:=by unfold kP;decide+kernel
   rw[this] at hc;cases hc⟩
 | j+1=>by
  have ⟨h1,h2⟩:=ze cell k j
  unfold kP
  obtain⟨c1,_,e1,m1⟩:=zd (k+cell/144)
  obtain⟨c2,_,e2,m2⟩:=zd (cell/144+5*(j:Int)+cell/5184%2*k*7)
  split
  ·rw[e1,Hq,Dj]
   refine⟨by rw[h1];rfl,λc hc=>?_⟩
   rcases ZU.mp hc with hc|hc
   ·exact h2 c hc
   ·rw[WO.mp hc];exact m1
  ·rw[e2,Hq,Dj]
   refine⟨by rw[h1];rfl,λc hc=>?_⟩
   rcases ZU.mp hc with hc|hc
   ·exact h2 c hc
   ·rw[WO.mp hc];exact m2
theorem qm(cell k:Int):Good (nameOf cell k):=by
 obtain⟨h1,h2⟩:=ze cell k (1+cell%12).toNat
 have b:=mod_lt cell 12 (by decide)
 exact⟨by unfold nameOf;rw[h1];omega,by unfold nameOf;rw[h1];omega,h2⟩
theorem M7{x:Str}(h:x.length<=1000)(hc:∀c∈x.cps.toList,c<1114112):kW x:=by
 refine⟨?_,h⟩
 have z:=PySem.StrLaws.reprText_len x λc Bo=>Nat.lt_trans (hc c Bo) (by decide)
 omega
theorem K4:∀c∈l7.cps.toList,c<1114112:=by decide+kernel
theorem Good.Ay{x:Str}(g:Good x):kW x:=M7 (by have:=g.2.1;omega) λc hc=>K4 c (g.2.2 c hc)
def Hr(i:Int):Nat:=(l7.cps[(i%36).toNat]?).getD 0
theorem IS{i j:Int}(h:Hr i=Hr j):i%36=j%36:=by
 have key:∀a<36,∀b<36,(l7.cps[a]?).getD 0=(l7.cps[b]?).getD 0->a=b:=by decide+kernel
 have b1:=mod_lt i 36 (by decide)
 have b2:=mod_lt j 36 (by decide)
 have:=key (i%36).toNat (by omega) (j%36).toNat (by omega) h
 omega
theorem Dl(cell k:Int):∀n j,j<n->(kP cell k n).cps.toList[j]?=some (if(j:Int)=cell/12%(1+cell%12) then Hr (k+cell/144) else Hr (cell/144+5*(j:Int)+cell/5184%2*k*7))
 | 0,j,h=>by omega
 | n+1,j,h=>by
  have hl:(kP cell k n).cps.toList.length=n:=by rw[aaL];exact(ze cell k n).1
  rw[kP,Dj]
  by_cases e:j=n
  ·subst e
   rw[aba (by omega),hl,Nat.sub_self]
   split<;>rfl
  ·rw[abP (by omega)]
   exact Dl cell k n j (by omega)
theorem Fd{c i j:Int}(h0:0<=i)(h1:i<36)(h2:0<=j)(h3:j<36)(h:nameOf c i=nameOf c j):i=j:=by
 have b:=mod_lt c 12 (by decide)
 have b2:=mod_lt (c/12) (1+c%12) (by omega)
 have e1:=Dl c i (1+c%12).toNat (c/12%(1+c%12)).toNat (by omega)
 have e2:=Dl c j (1+c%12).toNat (c/12%(1+c%12)).toNat (by omega)
 have h:kP c i (1+c%12).toNat=kP c j (1+c%12).toNat:=h
 rw[h] at e1
 rw[e1] at e2
 rw[aan (by omega),aan (by omega)] at e2
 have:=IS (aaz e2)
 omega
def P2(K:Qqy):Sp:=λvs H Q _=>∃(a:Addr)(ns:List Int)(k:Int),vs=[.ref a,.int k]/\gO K H a (ns.map V.int)/\0<=k/\Q (.int (cellAt ns k)) H
theorem Hs(T:Txt mg)(O:Ok K mg A):il P w K mg base mD 1 A.sA A.sC ["script","k"] (P2 K):=by
 refine O.jd.f.q_ yS λjt A outer s H vs Q E hr h=>?_
 obtain⟨a,ns,k,rfl,ha,h0,q⟩:=h
 refine⟨_,(de (iC (ij GZ (pv 1) (gM gD (by rfl) T.jC aav (a_ (pv 0) d_)) (iP _)) (f_ (gZ (lC (pv 0) (pv 1)))) g_)
   (f_ (gZ gq))),?_⟩
 refine JT ?_;intro _
 refine⟨_,rfl,_,rfl,a,_,rfl,.inl ha,_,_,rfl,rfl,_,rfl,?_⟩
 refine kF (λhc=>?_) (λhc=>?_)
 ·have hc:k<((ns.map V.int).length:Int):=aah hc
  obtain⟨v,e,ev⟩:=rN h0 hc
  rw[aam] at ev
  cases en:ns[k.toNat]? with
  | none=>rw[en] at ev;cases ev
  | some z=>
   rw[en] at ev
   cases ev
   unfold cellAt at q
   rw[en] at q
   exact⟨_,rfl,_,rfl,a,_,_,_,rfl,rfl,ha,e,q⟩
 ·have hc:¬k<((ns.map V.int).length:Int):=by simpa using hc
  unfold cellAt at q
  rw[Ob] at hc
  rw[List.getElem?_eq_none (by omega)] at q
  exact q
def P4:Sp:=λvs H Q _=>∃(c k:Int),vs=[.int c,.int k]/\Q (.str (nameOf c k)) H
theorem M8(T:Txt mg)(O:Ok K mg A):il P w K mg base mD 1 A.yo A.yp ["cell","k"] P4:=by
 refine O.tJ.f.q_ jm λjt A outer s H vs Q E hr h=>?_
 obtain⟨c,k,rfl,q⟩:=h
 refine⟨_,(de (k8 2 jm i_)
   (de (k8 3 jm (gG iG gq (gG iO (pv 0) gq)))
   (de (k8 4 jm (gG jU (pv 0) gq))
   (de (k8 5 jm (gG rK (gG rK (gG iO (gG jU (pv 0) gq) gq) (pv 1)) gq))
   (de (k8 6 jm i_)
   (de (ix aar rfl (jE rfl T.kE (a_ (pv 3) d_)) (rF 7 jm) (f_ (iC (ij nF (pv 7) (gG iO (gG jU (pv 0) gq) (pv 3)) (iP _)) (f_ (k8 6 jm (gG zp (pv 6) (jH FJ (pv 2) (gG iO (gG iG (pv 1) (pv 4)) gq) (λ_ _=>rfl))))) (f_ (k8 6 jm (gG zp (pv 6) (jH FJ (pv 2) (gG iO (gG iG (gG iG (pv 4) (gG rK gq (pv 7))) (pv 5)) gq) (λ_ _=>rfl))))))))
   (f_ (gZ (pv 6))))))))),?_⟩
 refine ZV ?_;intro _ _ _ _ _ _
 have b:=mod_lt c 12 (by decide)
 have b2:=mod_lt (c/5184) 2 (by decide)
 refine⟨_,rfl,_,_,rfl,rfl,(by show(0:Int)<12;decide),_,_,rfl,rfl,?_⟩
 refine⟨_,rfl,_,_,rfl,rfl,⟨by decide,by decide⟩,?_⟩
 refine⟨_,rfl,_,_,rfl,rfl,⟨by decide,by decide⟩,_,_,rfl,rfl,(by show(0:Int)<2;decide),_,rfl,_,_,rfl,rfl,.inl ⟨by omega,by omega⟩,_,_,rfl,rfl,.inr ⟨by decide,by decide⟩,?_⟩
 refine⟨_,rfl,_,rfl,by omega,by omega,?_⟩
 let Jv:=λ(j:Nat) (Z:St) (H2:Hp)=>∃v,Z=[ri c,ri k,rs l7,ri (1+c%12),ri (c/144),ri (c/5184%2*k*7),rs (kP c k j),v]/\H2=H
 refine jX Jv ⟨none,rfl,rfl⟩ ?_ ?_
 ·rintro j Z H2 hj ⟨v,rfl,rfl⟩
  have hlen:=(ze c k j).1
  have hz:(kP c k j).length+1<=sizeLine:=aai (m:=13) (by omega) (by decide)
  refine⟨_,rfl,_,rfl,_,_,rfl,rfl,⟨by decide,by decide⟩,_,rfl,_,_,rfl,rfl,(by show(0:Int)<1+c%12;omega),rfl,_,rfl,?_⟩
  refine kF (λhc=>?_) (λhc=>?_)
  ·have hc:(0:Int)+(j:Int)=c/12%(1+c%12):=V.int.inj (aah hc)
   obtain⟨cp,e,es,_⟩:=zd (k+c/144)
   refine⟨_,rfl,_,rfl,_,rfl,_,rfl,_,_,rfl,rfl,_,_,rfl,rfl,(by show(0:Int)<36;decide),_,_,cp,rfl,rfl,by rw[Di];decide,e,_,_,rfl,rfl,hz,some (.int (0+(j:Int))),?_,rfl⟩
   rw[kP,aan (by omega),es]
   rfl
  ·have hc:¬(0:Int)+(j:Int)=c/12%(1+c%12):=λz=>hc (WV (aaQ V.int z))
   obtain⟨cp,e,es,_⟩:=zd (c/144+5*(j:Int)+c/5184%2*k*7)
   refine⟨_,rfl,_,rfl,_,rfl,_,rfl,_,_,rfl,rfl,.inl ⟨by decide,by decide⟩,_,_,rfl,rfl,_,rfl,_,_,rfl,rfl,_,_,rfl,rfl,(by show(0:Int)<36;decide),_,_,cp,rfl,rfl,by rw[Di];decide,by rw[Int.zero_add];exact e,_,_,rfl,rfl,hz,some (.int (0+(j:Int))),?_,rfl⟩
   rw[kP,aac (by omega),es]
   rfl
 ·rintro Z H2 ⟨v,rfl,rfl⟩
  refine⟨_,rfl,?_⟩
  have:(1+c%12-0).toNat=(1+c%12).toNat:=by rw[Int.sub_zero]
  exact q
def P5:Sp:=λvs H Q _=>∃(c k b:Int),vs=[.int c,.int k,.int b]/\0<b/\0<=k/\k<=1000/\∀x,0<=x->x<b->Q (.int x) H
theorem M9(T:Txt mg)(O:Ok K mg A):il P w K mg base mD 1 A.ym A.yn ["cell","k","bound"] P5:=by
 refine O.BV.f.q_ qM λjt A outer s H vs Q E hr h=>?_
 obtain⟨c,k,b,rfl,hb,Rz,Us,q⟩:=h
 refine⟨_,(de (k8 3 qM (gG iO (gG rK (gG iG (gG iG (gG iO (pv 0) gq) (gG rK gq (pv 1))) gq) gq) gq))
  (de (k8 3 qM (gG iO (gG rK (gG iG (pv 3) (gG rK gq (gG iG (pv 1) gq))) gq) gq))
  (f_ (gZ (gG iO (gG jU (pv 3) gq) (pv 2)))))),?_⟩
 refine Ep ?_;intro _ _
 refine⟨_,rfl,_,_,rfl,rfl,(by show(0:Int)<2147483647;decide),_,rfl,_,_,rfl,rfl,.inl ⟨by decide,by decide⟩,_,_,rfl,rfl,_,_,rfl,rfl,_,_,rfl,rfl,.inr ⟨by decide,by decide⟩,_,_,rfl,rfl,(by show(0:Int)<2147483647;decide),?_⟩
 refine⟨_,rfl,_,rfl,_,_,rfl,rfl,_,_,rfl,rfl,.inl ⟨by decide,by decide⟩,_,_,rfl,rfl,_,_,rfl,rfl,.inr ⟨by decide,by decide⟩,_,_,rfl,rfl,(by show(0:Int)<2147483629;decide),?_⟩
 exact⟨_,rfl,_,_,rfl,rfl,⟨by decide,by decide⟩,_,rfl,_,_,rfl,rfl,hb,q _ (mod_lt _ b hb).1 (mod_lt _ b hb).2⟩
def xt:Str:=Str.ofString " !#$&()*+,-./0123456789:;<=>?@ABCDEFGHIJKLMNOPQRSTUVWXYZ[]^_abcdefghijklmnopqrstuvwxyz{|}~"
theorem tO:xt.length=90:=by decide+kernel
def P6:Sp:=λvs H Q _=>∃(c:Int),vs=[.int c]/\∀x H',gs H H'->Q (.str x) H'
theorem Fe:∀(xs:List Str),(∀x∈xs,x.length=1)->(xs.map (·.length)).sum=xs.length
 | [],_=>rfl
 | x::r,h=>by
  rw[aat,List.sum_cons,h x aap,Fe r λy hy=>h y (aaa _ hy),ZY]
  omega
theorem M_(T:Txt mg)(O:Ok K mg A):il P w K mg base mD 1 A.yq A.yr ["cell"] P6:=by
 refine O.xn.f.q_ lR λjt A outer s H vs Q E hr h=>?_
 obtain⟨c,rfl,q⟩:=h
 refine⟨_,(de (mS (i:=1) lR.nd rfl (Or.inr rfl) i_)
   (de (iC (ij nF (gG iO (pv 0) gq) gq (iP _)) (f_ (gZ (lC (iQ (a_ i_ (a_ i_ (a_ i_ (a_ i_ d_))))) (gG iO (gG jU (pv 0) gq) gq)))) g_)
   (de (k8 2 lR (gG iO (gG jU (pv 0) gq) gq))
   (de (uB (iC (ij nF (gG iO (gG jU (pv 0) gq) gq) gq (iP _)) (f_ (k8 2 lR gq)) g_))
   (f_ (gZ (nS PySem.F.plainAttrs_str PySem.F.slot_str_join PySem.F.type_str_join Ml i_ (a_ (xT xZ (gr oP).names [3] rfl (jE rfl T.kE (a_ (pv 2) d_)) rfl (by decide+kernel) (λ_ _ _ _=>(iK (i:=3) lR.nd rfl (Or.inl rfl))) (λ_ _ _ _=>nV) (λ_ _ _ _=>CD (jH FJ (pv 1) (gG iO (gG iG (gG jU (pv 0) gq) (gG rK gq (pv 3))) (gM vt (by rfl) T.jC aav (a_ (pv 1) d_))) (λ_ _=>rfl)))) d_)))))))),?_⟩
 refine Q8 ?_;intro _ _ _ _
 refine⟨_,rfl,_,_,rfl,rfl,(by show(0:Int)<3;decide),rfl,_,rfl,?_⟩
 refine kF (λ_=>?_) (λ_=>?_)
 ·refine⟨jS,λl hl=>?_⟩
  refine⟨_,rfl,_,_,rfl,rfl,⟨by decide,by decide⟩,_,_,rfl,rfl,(by show(0:Int)<4;decide),?_⟩
  have b:=mod_lt (c/3) 4 (by decide)
  obtain⟨v,e,ev⟩:=rN (xs:=[V.str (Str.ofString "a"),V.str (Str.ofString "b"),V.str (Str.ofString ""),V.str (Str.ofString " ")]) b.1 (by simpa using b.2)
  refine⟨l,_,_,v,rfl,rfl,gO.of b_,e,?_⟩
  have hv:∃x,v=V.str x:=by
   have hm:=WW ev
   simp at hm
   rcases hm with rfl|rfl|rfl|rfl<;>exact⟨_,rfl⟩
  obtain⟨x,rfl⟩:=hv
  exact q x _ ((gs.refl H).new hl)
 ·refine⟨_,rfl,_,_,rfl,rfl,⟨by decide,by decide⟩,_,_,rfl,rfl,(by show(0:Int)<5;decide),?_⟩
  have b:=mod_lt (c/3) 5 (by decide)
  refine⟨λZ H2=>∃(z:Int)(v:Option V),Z=[ri c,rs xt,ri z,v]/\H2=H/\0<=z/\z<=80,?_,?_⟩
  ·refine⟨_,rfl,_,_,rfl,rfl,⟨by decide,by decide⟩,_,_,rfl,rfl,(by show(0:Int)<9;decide),rfl,_,rfl,?_⟩
   refine kF (λ_=>?_) (λ_=>?_)
   ·exact⟨80,_,rfl,rfl,by decide,by decide⟩
   ·exact⟨_,_,rfl,rfl,b.1,by omega⟩
  ·rintro Z H2 ⟨z,v,rfl,rfl,z0,z1⟩
   refine⟨rfl,_,rfl,_,rfl,by omega,by omega,?_⟩
   let Jv:=λ(m:Nat) (ys:List V) (Z:St) (H3:Hp)=>∃(v:Option V)(xs:List Str),Z=[ri c,rs xt,ri z,v]/\H3=H2/\ys=gw xs/\xs.length=m/\∀x∈xs,x.length=1
   refine vw (by have:sizeLine=2 ^ 24:=rfl;omega) Jv
    ⟨none,[],rfl,rfl,rfl,rfl,λx hx=>nomatch hx⟩ (by rintro _ _ _ _ ⟨_,xs,_,_,e,e2,_⟩;rw[e,Ob];omega) ?_ ?_
   ·rintro m ys Z H3 hm ⟨v,xs,rfl,rfl,rfl,hx,h1⟩
    refine⟨_,rfl,_,rfl,_,_,rfl,rfl,⟨by decide,by decide⟩,_,rfl,_,_,rfl,rfl,.inl ⟨by decide,by decide⟩,_,_,rfl,rfl,_,rfl,_,rfl,by rw[tO];decide,_,_,rfl,rfl,(by show(0:Int)<(xt.length:Int);rw[tO];decide),?_⟩
    have b:=mod_lt (c/45+7*(0+(m:Int))) (xt.length:Int) (by rw[tO];decide)
    obtain⟨cp,e,_⟩:=rN (xs:=xt.cps.toList) b.1 (by rw[aaL];exact b.2)
    refine⟨_,_,cp,rfl,rfl,by rw[tO];decide,e,?_⟩
    refine⟨_,xs++[⟨#[cp]⟩],rfl,rfl,ju _ _,by rw[XF,hx];rfl,λx UD=>?_⟩
    rcases ZU.mp UD with UD|UD
    ·exact h1 x UD
    ·rw[WO.mp UD];rfl
   ·rintro ys Z H3 ⟨v,xs,rfl,rfl,rfl,hx,h1⟩ p hp
    refine⟨_,p,xs,rfl,rfl,gO.of b_,?_,?_⟩
    ·rw[Fe xs h1]
     have:(Str.ofString "").length=0:=by decide+kernel
     rw[this]
     omega
    ·exact q _ _ ((gs.refl H3).new hp)
theorem wk(l:List Str)(k:Nat):vq (gw l) none (some (k:Int))=gw (l.take k):=by
 unfold vq
 rw[HT.Ed,HT.G3,Nat.sub_zero,List.drop_zero]
 unfold gw
 rw[Ob,<-List.map_take]
 congr 1
 by_cases h:k<=l.length
 ·rw[Nat.min_eq_left h]
 ·rw[Nat.min_eq_right (by omega),List.take_of_length_le (WR _),List.take_of_length_le (by omega)]
theorem Ff(l:List Str)(k:Nat):vq (gw l) (some (k:Int)) none=gw (l.drop k):=by
 unfold vq
 rw[HT.Ed,HT.G3,List.take_of_length_le (by rw[List.length_drop];exact WR _)]
 unfold gw
 rw[Ob,<-List.map_drop]
 congr 1
 by_cases h:k<=l.length
 ·rw[Nat.min_eq_left h]
 ·rw[Nat.min_eq_right (by omega),List.drop_of_length_le (WR _),List.drop_of_length_le (by omega)]
theorem xu(l:List Str){z:Int}{k:Nat}(h:z=(k:Int)):vq (gw l) (some z) none=gw (l.drop k):=by rw[h,Ff]
structure Gs(ts HM:List Str):Prop where
 ne:ts≠HM
 len:HM.length<=ts.length+3
 near:HM.length<=K01.lcs ts HM+3
theorem Az{x y s:List Str}(h1:s.Sublist x)(h2:s.Sublist y):s.length<=K01.lcs x y:=(K01.j6 x y).1 s h1 h2
theorem Dm{ts HM:List Str}(h:ts.length≠HM.length):ts≠HM:=λz=>h (aaQ List.length z)
theorem IT(ts:List Str)(k:Nat)(x:Str):Gs ts (ts.take k++[x]++ts.drop k):=by
 have hl:(ts.take k++[x]++ts.drop k).length=ts.length+1:=by simp;omega
 have hs:ts.Sublist (ts.take k++[x]++ts.drop k):=by
  conv=>lhs;rw[<-abz k ts]
  rw[aaO]
  exact(aaD _).append (aa3 _ _)
 have:=Az (aaD ts) hs
 exact⟨Dm (by omega),by omega,by omega⟩
theorem K5(ts:List Str)(k:Nat)(h:k<ts.length):Gs ts (ts.take k++ts.drop (k+1)):=by
 have hl:(ts.take k++ts.drop (k+1)).length=ts.length-1:=by simp;omega
 have hs:(ts.take k++ts.drop (k+1)).Sublist ts:=by
  conv=>rhs;rw[<-abz k ts]
  refine(aaD _).append ?_
  rw[aaP h]
  exact abr _ _
 have:=Az hs (aaD _)
 exact⟨Dm (by omega),by omega,by omega⟩
theorem Gu(ts:List Str)(k:Nat)(x:Str)(h:k<ts.length)(hx:ts[k]≠x):Gs ts (ts.take k++[x]++ts.drop (k+1)):=by
 have hl:(ts.take k++[x]++ts.drop (k+1)).length=ts.length:=by simp;omega
 have hs:(ts.take k++ts.drop (k+1)).Sublist ts:=by
  conv=>rhs;rw[<-abz k ts]
  refine(aaD _).append ?_
  rw[aaP h]
  exact abr _ _
 have Jm:(ts.take k++ts.drop (k+1)).Sublist (ts.take k++[x]++ts.drop (k+1)):=by
  rw[aaO]
  exact(aaD _).append (aa3 _ _)
 have:=Az hs Jm
 have HH:(ts.take k++ts.drop (k+1)).length=ts.length-1:=by simp;omega
 refine⟨λz=>hx ?_,by omega,by omega⟩
 have e:ts[k]?=(ts.take k++[x]++ts.drop (k+1))[k]?:=by rw[<-z]
 rw[aaO,aba (by rw[aaC];omega),aaC,show k-min k ts.length=0 by omega,TH h] at e
 exact aaz e
theorem Gv(ts:List Str)(k:Nat)(x y z:Str):Gs ts ([x]++(ts.take k++[y]++ts.drop k)++[z]):=by
 have hl:([x]++(ts.take k++[y]++ts.drop k)++[z]).length=ts.length+3:=by simp;omega
 have hs:ts.Sublist ([x]++(ts.take k++[y]++ts.drop k)++[z]):=by
  refine List.Sublist.trans ?_ (List.sublist_append_left _ _)
  refine List.Sublist.trans ?_ (aa3 _ _)
  conv=>lhs;rw[<-abz k ts]
  rw[aaO]
  exact(aaD _).append (aa3 _ _)
 have:=Az (aaD ts) hs
 exact⟨Dm (by omega),by omega,by omega⟩
theorem IU(ts:List Str)(k:Nat)(x y z:Str)(h:k+1<ts.length):Gs ts (ts.take k++[x,y,z]++ts.drop (k+2)):=by
 have hl:(ts.take k++[x,y,z]++ts.drop (k+2)).length=ts.length+1:=by simp;omega
 have hs:(ts.take k++ts.drop (k+2)).Sublist ts:=by
  conv=>rhs;rw[<-abz k ts]
  refine(aaD _).append ?_
  exact K01.zL (by omega)
 have Jm:(ts.take k++ts.drop (k+2)).Sublist (ts.take k++[x,y,z]++ts.drop (k+2)):=by
  rw[aaO]
  exact(aaD _).append (aa3 _ _)
 have:=Az hs Jm
 have HH:(ts.take k++ts.drop (k+2)).length=ts.length-2:=by simp;omega
 exact⟨Dm (by omega),by omega,by omega⟩
def P7:Sp:=λvs H Q _=>∃(t:Addr)(ts:List Str)(c:Int),vs=[.ref t,.int c]/\H t=some (.lst (gw ts))/\ts.length<=900/\∀p H' HM,gs H H'->H' p=some (.lst (gw HM))->Gs ts HM->Q (.ref p) H'
theorem Na(T:Txt mg)(O:Ok K mg A):il P w K mg base mD 2 A.yt A.yu ["texts","cell"] P7:=by
 have yK:=@M_ P w K mg base A T O
 refine O.BW.f.q_ j7 λjt A outer s H vs Q E hr h=>?_
 obtain⟨t,ts,c,rfl,ht,hl,q⟩:=h
 have sz:sizeLine=16777216:=aaw
 have et:((gw ts).length:Int)=(ts.length:Int):=by simp
 refine⟨_,(de (k8 2 j7 (gG iO (gG jU (pv 1) gq) (gG iG (gM gD (by rfl) T.jC aav (a_ (pv 0) d_)) gq)))
   (de (k8 3 j7 (oM O.xn yK hr (a_ (gG jU (pv 1) gq) d_)))
   (de (k8 4 j7 (gG mT (gG mT (mz oH (pv 0) oF (oG (pv 2))) (iQ (a_ (pv 3) d_))) (mz oH (pv 0) (oG (pv 2)) oF)))
   (de (k8 5 j7 (gG iO (pv 1) gq))
   (de (uB (iC ((pw_and (ij nF (pv 5) gq (iP _)) (pw_and1 (ij Bw (gM gD (by rfl) T.jC aav (a_ (pv 0) d_)) gq (iP _)))).pt) (de (k8 6 j7 (gG iO (pv 2) (gM gD (by rfl) T.jC aav (a_ (pv 0) d_))))
   (f_ (gZ (gG mT (mz oH (pv 0) oF (oG (pv 6))) (mz oH (pv 0) (oG (gG iG (pv 6) gq)) oF))))) g_))
   (de (uB (iC ((pw_and (ij nF (pv 5) gq (iP _)) (pw_and (ij GZ (pv 2) (gM gD (by rfl) T.jC aav (a_ (pv 0) d_)) (iP _)) (pw_and1 (ij GY (lC (pv 0) (pv 2)) (pv 3) (iP _))))).pt) (f_ (gZ (gG mT (gG mT (mz oH (pv 0) oF (oG (pv 2))) (iQ (a_ (pv 3) d_))) (mz oH (pv 0) (oG (gG iG (pv 2) gq)) oF)))) g_))
   (de (uB (iC (ij nF (pv 5) gq (iP _)) (f_ (gZ (gG mT (gG mT (iQ (a_ (pv 3) d_)) (pv 4)) (iQ (a_ (oM O.xn yK hr (a_ (gG jU (pv 1) gq) d_)) d_))))) g_))
   (de (uB (iC ((pw_and (ij nF (pv 5) gq (iP _)) (pw_and1 (ij GZ (gG iG (pv 2) gq) (gM gD (by rfl) T.jC aav (a_ (pv 0) d_)) (iP _)))).pt) (de (k8 7 j7 (iQ (a_ (lC (pv 0) (gG iG (pv 2) gq)) (a_ (pv 3) (a_ (lC (pv 0) (pv 2)) d_)))))
   (f_ (gZ (gG mT (gG mT (mz oH (pv 0) oF (oG (pv 2))) (pv 7)) (mz oH (pv 0) (oG (gG iG (pv 2) gq)) oF))))) g_))
   (f_ (gZ (pv 4))))))))))),?_⟩
 refine sl9 ?_;intro _ _ _ _ _ _ _ _
 refine⟨_,rfl,_,_,rfl,rfl,⟨by decide,by decide⟩,_,rfl,t,_,rfl,.inl (gO.of ht),_,_,rfl,rfl,_,_,rfl,rfl,(by rw[et];omega),?_⟩
 rw[et]
 have b:=mod_lt (c/5) ((ts.length:Int)+1) (by omega)
 obtain⟨k,hk⟩:∃k:Nat,c/5%((ts.length:Int)+1)=(k:Int):=⟨_,(ab0 b.1).symm⟩
 dsimp only
 rw[hk]
 have Jo:k<=ts.length:=by omega
 refine⟨_,rfl,_,_,rfl,rfl,⟨by decide,by decide⟩,c/30,rfl,λx H1 s1=>?_⟩
 have ht1:=s1 _ _ ht
 refine⟨_,rfl,_,rfl,_,rfl,t,_,rfl,gO.of ht1,λa ha=>?_⟩
 rw[wk]
 have s2:=s1.new (o:=.lst (gw (ts.take k))) ha
 have h2a:(upd H1 a (.lst (gw (ts.take k)))) a=some (.lst (gw (ts.take k))):=b_
 generalize upd H1 a (.lst (gw (ts.take k)))=H2 at s2 h2a
 refine⟨_,rfl,L2.jS,λb0 LW=>?_⟩
 have s3:=s2.new (o:=.lst [V.str x]) LW
 refine⟨a,b0,_,_,rfl,rfl,iy LW h2a,b_,by simp;omega,λd hd=>?_⟩
 have s4:=s3.new (o:=.lst (gw (ts.take k)++[V.str x])) hd
 have h4d:(upd (upd H2 b0 (.lst [V.str x])) d (.lst (gw (ts.take k)++[V.str x]))) d=some (.lst (gw (ts.take k++[x]))):=by rw[b_,ju]
 generalize upd (upd H2 b0 (.lst [V.str x])) d (.lst (gw (ts.take k)++[V.str x]))=H4 at s4 h4d
 refine⟨_,rfl,_,rfl,_,rfl,t,_,rfl,gO.of (s4 _ _ ht),λe he=>?_⟩
 rw[Ff]
 have s5:=s4.new (o:=.lst (gw (ts.drop k))) he
 refine⟨d,e,_,_,rfl,rfl,iy he h4d,b_,by simp;omega,λm hm=>?_⟩
 have s6:=s5.new (o:=.lst (gw (ts.take k++[x])++gw (ts.drop k))) hm
 have YK:(upd (upd H4 e (.lst (gw (ts.drop k)))) m (.lst (gw (ts.take k++[x])++gw (ts.drop k)))) m=some (.lst (gw (ts.take k++[x]++ts.drop k))):=by rw[b_,nY]
 generalize upd (upd H4 e (.lst (gw (ts.drop k)))) m (.lst (gw (ts.take k++[x])++gw (ts.drop k)))=H6 at s6 YK
 have GL:=s6 _ _ ht
 refine⟨_,rfl,_,_,rfl,rfl,(by show(0:Int)<5;decide),?_⟩
 refine⟨λZ H7=>Z=[rr t,ri c,ri k,rs x,rr m,ri (c%5),none,none]/\H7=H6,?_,?_⟩
 ·refine⟨_,rfl,rfl,_,rfl,?_⟩
  refine kF (λ_=>?_) (λ_=>jD ⟨rfl,rfl⟩)
  refine⟨_,rfl,t,_,rfl,.inl (gO.of GL),_,_,rfl,rfl,_,rfl,?_⟩
  refine kF (λh1=>?_) (λ_=>⟨rfl,rfl⟩)
  have h1:0<ts.length:=by have:=aah h1;rw[et] at this;omega
  refine⟨_,rfl,_,rfl,t,_,rfl,.inl (gO.of GL),_,_,rfl,rfl,(by rw[et];omega),?_⟩
  have b2:=mod_lt (k:Int) (ts.length:Int) (by omega)
  obtain⟨o,ho⟩:∃o:Nat,(k:Int)%(ts.length:Int)=(o:Int):=⟨_,(ab0 b2.1).symm⟩
  rw[et]
  dsimp only
  rw[ho]
  refine⟨_,rfl,_,rfl,_,rfl,t,_,rfl,gO.of GL,λa ha=>?_⟩
  have s7:=s6.new (o:=.lst (vq (gw ts) none (some (o:Int)))) ha
  refine⟨_,rfl,_,rfl,_,_,rfl,rfl,_,rfl,t,_,rfl,gO.of (s7 _ _ ht),λe he=>?_⟩
  have s8:=s7.new (o:=.lst (vq (gw ts) (some ((o:Int)+1)) none)) he
  refine⟨a,e,gw (ts.take o),gw (ts.drop (o+1)),rfl,rfl,iy he (by rw[b_,wk]),by rw[b_,xu ts (k:=o+1) (by omega)],by simp;omega,λp hp=>?_⟩
  refine q p _ _ (s8.new hp) ?_ (K5 ts o (by omega))
  rw[b_,nY]
 rintro Z H7 ⟨rfl,rfl⟩
 refine⟨λZ H8=>Z=[rr t,ri c,ri k,rs x,rr m,ri (c%5),none,none]/\H8=H7,?_,?_⟩
 ·refine⟨_,rfl,rfl,_,rfl,?_⟩
  refine kF (λ_=>?_) (λ_=>jD ⟨rfl,rfl⟩)
  refine⟨_,rfl,_,rfl,t,_,rfl,.inl (gO.of GL),_,_,rfl,rfl,_,rfl,?_⟩
  refine kF (λh1=>?_) (λ_=>jD ⟨rfl,rfl⟩)
  have h1:k<ts.length:=by have:=aah h1;rw[et] at this;omega
  have hx:ts[k]?=some ts[k]:=TH h1
  refine⟨_,rfl,_,rfl,t,_,_,_,rfl,rfl,gO.of GL,gJ rfl (mw hx),_,rfl,rfl,_,rfl,?_⟩
  refine kF (λh2=>?_) (λ_=>⟨rfl,rfl⟩)
  have h2:ts[k]≠x:=λz=>by rw[z] at h2;simp at h2
  refine⟨_,rfl,_,rfl,_,rfl,t,_,rfl,gO.of GL,λa ha=>?_⟩
  have s7:=s6.new (o:=.lst (vq (gw ts) none (some (k:Int)))) ha
  rw[wk] at s7 ⊢
  refine⟨_,rfl,L2.jS,λb0 LW=>?_⟩
  have s8:=s7.new (o:=.lst [V.str x]) LW
  refine⟨a,b0,_,_,rfl,rfl,iy LW b_,b_,by simp;omega,λd hd=>?_⟩
  have s9:=s8.new (o:=.lst (gw (ts.take k)++[V.str x])) hd
  refine⟨_,rfl,_,rfl,_,_,rfl,rfl,_,rfl,t,_,rfl,gO.of (s9 _ _ ht),λe he=>?_⟩
  have GH:=s9.new (o:=.lst (vq (gw ts) (some ((k:Int)+1)) none)) he
  refine⟨d,e,_,gw (ts.drop (k+1)),rfl,rfl,iy he b_,by rw[b_,xu ts (k:=k+1) (by omega)],by simp;omega,λp hp=>?_⟩
  refine q p _ _ (GH.new hp) ?_ (Gu ts k x h1 h2)
  rw[b_,ju,nY]
 rintro Z H8 ⟨rfl,rfl⟩
 refine⟨λZ H9=>Z=[rr t,ri c,ri k,rs x,rr m,ri (c%5),none,none]/\H9=H8,?_,?_⟩
 ·refine⟨_,rfl,rfl,_,rfl,?_⟩
  refine kF (λ_=>?_) (λ_=>⟨rfl,rfl⟩)
  refine⟨_,rfl,L2.jS,λa ha=>?_⟩
  have s7:=s6.new (o:=.lst [V.str x]) ha
  refine⟨_,rfl,a,m,_,_,rfl,rfl,b_,iy ha YK,by simp;omega,λb0 LW=>?_⟩
  have s8:=s7.new (o:=.lst ([V.str x]++gw (ts.take k++[x]++ts.drop k))) LW
  refine⟨_,rfl,_,_,rfl,rfl,⟨by decide,by decide⟩,c/60,rfl,λy H9 s9=>⟨L2.jS,λd hd=>?_⟩⟩
  have GH:=(s8.trans s9).new (o:=.lst [V.str y]) hd
  refine⟨b0,d,_,_,rfl,rfl,iy hd (s9 _ _ b_),b_,by simp;omega,λp hp=>?_⟩
  refine q p _ _ (GH.new hp) ?_ (Gv ts k x x y)
  rw[b_]
  simp[gw]
 rintro Z H9 ⟨rfl,rfl⟩
 refine⟨λZ RA=>Z=[rr t,ri c,ri k,rs x,rr m,ri (c%5),none,none]/\RA=H9,?_,?_⟩
 ·refine⟨_,rfl,rfl,_,rfl,?_⟩
  refine kF (λ_=>?_) (λ_=>jD ⟨rfl,rfl⟩)
  refine⟨_,rfl,_,_,rfl,rfl,_,rfl,t,_,rfl,.inl (gO.of GL),_,_,rfl,rfl,_,rfl,?_⟩
  refine kF (λh1=>?_) (λ_=>⟨rfl,rfl⟩)
  have h1:k+1<ts.length:=by have:=aah h1;rw[et] at this;omega
  have hx:ts[k]?=some ts[k]:=TH (by omega)
  have hy:ts[k+1]?=some ts[k+1]:=TH h1
  refine⟨_,rfl,_,rfl,_,_,rfl,rfl,t,_,_,_,rfl,rfl,gO.of GL,gJ (j:=k+1) (by omega) (mw hy),_,rfl,_,rfl,_,rfl,t,_,_,_,rfl,rfl,gO.of GL,gJ rfl (mw hx),L2.jS,λu hu=>?_⟩
  have s7:=s6.new (o:=.lst [V.str ts[k+1],V.str x,V.str ts[k]]) hu
  have h7u:(upd H9 u (.lst [V.str ts[k+1],V.str x,V.str ts[k]])) u=some (.lst (gw [ts[k+1],x,ts[k]])):=b_
  generalize upd H9 u (.lst [V.str ts[k+1],V.str x,V.str ts[k]])=VX at s7 h7u
  refine⟨_,rfl,_,rfl,_,rfl,t,_,rfl,gO.of (s7 _ _ ht),λa ha=>?_⟩
  rw[wk]
  have s8:=s7.new (o:=.lst (gw (ts.take k))) ha
  refine⟨_,rfl,a,u,_,_,rfl,rfl,b_,iy ha h7u,by simp;omega,λd hd=>?_⟩
  have s9:=s8.new (o:=.lst (gw (ts.take k)++gw [ts[k+1],x,ts[k]])) hd
  refine⟨_,rfl,_,rfl,_,_,rfl,rfl,_,rfl,t,_,rfl,gO.of (s9 _ _ ht),λe he=>?_⟩
  have GH:=s9.new (o:=.lst (vq (gw ts) (some ((k:Int)+2)) none)) he
  refine⟨d,e,_,gw (ts.drop (k+2)),rfl,rfl,iy he b_,by rw[b_,xu ts (k:=k+2) (by omega)],by simp;omega,λp hp=>?_⟩
  refine q p _ _ (GH.new hp) ?_ (IU ts k ts[k+1] x ts[k] h1)
  rw[b_,nY,nY]
 rintro Z RA ⟨rfl,rfl⟩
 exact⟨_,rfl,q m _ _ s6 YK (IT ts k x)⟩
structure Sz(k:Nat)(D:Dk):Prop where
 many:D.made.length<=k
 iE:(D.made.flatMap (·.iE)).length<=3*k
 jx:(D.made.flatMap (·.jx)).length<=3*(k*k)
theorem Ht(k:Nat):(k+1)*(k+1)=k*k+2*k+1:=by simp only [Nat.mul_add,Nat.add_mul];omega
theorem Sz.up{k:Nat}{D:Dk}(z:Sz k D):Sz (k+1) D:=⟨Nat.le_succ_of_le z.many,by have:=z.iE;omega,by have:=z.jx;have:=Ht k;omega⟩
theorem Sz.keep{k:Nat}{D:Dk}(z:Sz k D)(s:Str){p:Pt}(hp:p.iE.length<=3)(hc:p.jx.length<=3*k+3):Sz (k+1) (D.keep s p):=by
 refine⟨?_,?_,?_⟩
 ·show(D.made++[p]).length<=_
  rw[XF];have:=z.many;show _+1<=_;omega
 ·show((D.made++[p]).flatMap (·.iE)).length<=_
  rw[abK,XF,aaE,abC,aaM];have:=z.iE;omega
 ·show((D.made++[p]).flatMap (·.jx)).length<=_
  rw[abK,XF,aaE,abC,aaM];have:=z.jx;have:=Ht k;omega
theorem Sz.small{k:Nat}{D:Dk}(z:Sz k D)(h:k<=36):Small D.made:=by
 have h2:k*k<=36*36:=Nat.mul_le_mul h h
 exact⟨aai z.many (by omega),aai z.iE (by omega),aai z.jx (by omega)⟩
theorem Sz.row{k:Nat}{D:Dk}(z:Sz k D)(I:Inv D)(s f:Str):(D.row s f).length<=3*k:=aai (I.vC s f) z.iE
theorem IV{x f:Str}{row:List Ln}{texts:List Str}(e:Gs (row.map (·.tx)) texts):(mG x f row texts).iE.length<=3:=by
 have rise:=tG (row.map (·.tx)) texts
 rw[Ob] at rise
 have h:=G_ rise x
 rw[K01.xU] at h
 have:=e.near
 show(kK x texts _).length<=3
 omega
theorem pick{xs:List Str}{i:Int}(h0:0<=i)(h:i<(xs.length:Int)):∃x,Cn (gw xs) i=some (V.str x)/\x∈xs:=by
 obtain⟨v,e,ev⟩:=rN (xs:=gw xs) h0 (by simpa using h)
 obtain⟨x,hx,rfl⟩:=mx ev
 exact⟨x,e,WW hx⟩
def P8(A:Ad):Sp:=λvs H Q _=>∃(d ss fs:Addr)(D:Dk)(W:Addr->Prop)(k:Nat)(stores files:List Str)(c:Int)(x:Str)(b:Bool),vs=[.ref d,.ref ss,.ref fs,.int c,.str x,.bl b]/\ip A H d D W/\Inv D/\Sz k D/\k<36/\
 H ss=some (.lst (gw stores))/\stores≠[]/\stores.length<=1000/\(∀s∈stores,s∈D.stores/\kW s)/\H fs=some (.lst (gw files))/\files≠[]/\files.length<=1000/\(∀f∈files,Good f)/\Good x/\x∉D.names/\(∀z∈D.names,kW z)/\
 ∀H' D',ip A H' d D' W->o6 W H H'->Inv D'->Sz (k+1) D'->D'.stores=D.stores->(D'.made=D.made\/∃p,p.nm=x/\(b=false->p.other=none)/\D'.made=D.made++[p])->Q .jg H'
theorem Nb(T:Txt mg)(O:Ok K mg A):il P w K mg base mD 7 A.yv A.yw ["desk","stores","files","cell","name","backs"] (P8 A):=by
 have uQ:=(@KZ P w K mg base A T O).Ij
 have jA:=(@Gp P w K mg base A T O).Ij
 have Fp:=(@M6 P w K mg base A T O).Ij
 have Fq:=(@M4 P w K mg base A T O).Ij
 have sX:=(@Hn P w K mg base A T O).Ij
 have nz:=(@yF P w K mg base A T O).Ij
 have Bu:=(@IQ P w K mg base A T O).Ij
 have GN:=(@P1 P w K mg base A T O).Ij
 have Fs:=@Na P w K mg base A T O
 refine O.BX.f.q_ jn λjt A0 outer s H vs Q E hr h=>?_
 obtain⟨d,ss,fs,D,W,k,stores,files,c,x,bk,rfl,X,I,z,hk,QV,hs0,Vo,xy,wD,hf0,QQ,hfg,gx,hx,N4,q⟩:=h
 obtain⟨U,y⟩:=id X
 have sz:sizeLine=16777216:=aaw
 have sm:=z.small (by omega)
 have jS:xo D.made.length:=sm.many
 have yX:D.made.length<=4000:=jS
 have es:((gw stores).length:Int)=(stores.length:Int):=by simp
 have ef:((gw files).length:Int)=(files.length:Int):=by simp
 have Xx:0<stores.length:=List.length_pos_iff.mpr hs0
 have hf1:0<files.length:=List.length_pos_iff.mpr hf0
 refine⟨_,(de (k8 6 jn (lC (pv 1) (gG iO (pv 3) (gM gD (by rfl) T.jC aav (a_ (pv 1) d_)))))
   (de (k8 7 jn (lC (pv 2) (gG iO (gG jU (pv 3) gq) (gM gD (by rfl) T.jC aav (a_ (pv 2) d_)))))
   (de (k8 8 jn (gG iO (gG jU (pv 3) gq) gq))
   (de (k8 9 jn (gG jU (pv 3) gq))
   (de (En (j:=10) x5 (gr oQ).names [13] jn.nd rfl rfl rfl (iq (zH (pv 0) O.gP O.Am uQ hr (a_ (pv 6) (a_ (pv 7) d_)))) rfl (by decide+kernel) (λ_ _ _ _=>(iK (i:=13) jn.nd rfl (Or.inl rfl))) (λ_ _ _ _=>nV) (λ_ _ _ _=>CD (jH l8 (pv 13) gq (λ_ _=>rfl))))
   (f_ (iC (FY ((pw_and (ij nF (pv 8) gq (iP _)) (pw_and (kX (pv 5)) (pw_and1 (ij Bw (gM gD (by rfl) T.jC aav (a_ (zH (pv 0) O.gP O.k9 jA hr (a_ (pv 6) d_)) d_)) gq (iP _))))).pt)) (f_ (h_ (zH (pv 0) O.gP O.BS Fp hr (a_ (pv 6) (a_ (pv 4) (a_ (lC (zH (pv 0) O.gP O.k9 jA hr (a_ (pv 6) d_)) (gG iO (pv 9) (gM gD (by rfl) T.jC aav (a_ (zH (pv 0) O.gP O.k9 jA hr (a_ (pv 6) d_)) d_)))) d_)))))) (f_ (iC (FY ((pw_and (ij nF (pv 8) gq (iP _)) (pw_and (ij nF (gG iO (pv 9) gq) gq (iP _)) (pw_and1 (ij Bw (gM gD (by rfl) T.jC aav (a_ (zH (pv 0) O.gP O.k9 jA hr (a_ (pv 6) d_)) d_)) gq (iP _))))).pt)) (f_ (h_ (zH (pv 0) O.gP O.BU Fq hr (a_ (pv 6) (a_ (lC (zH (pv 0) O.gP O.k9 jA hr (a_ (pv 6) d_)) (xM rL gq)) d_))))) (f_ (iC (ij Bw (pv 8) gq (iP _)) (de (k8 11 jn (lC (pv 1) (gG iO (pv 9) (gM gD (by rfl) T.jC aav (a_ (pv 1) d_)))))
   (de (k8 12 jn (zH (pv 0) O.gP O.k9 jA hr (a_ (pv 11) d_)))
   (f_ (iC (ij Bw (gM gD (by rfl) T.jC aav (a_ (pv 12) d_)) gq (iP _)) (f_ (h_ (zH (pv 0) O.gP O.xm sX hr (a_ (pv 6) (a_ (pv 11) (a_ (lC (pv 12) (gG iO (gG jU (pv 9) gq) (gM gD (by rfl) T.jC aav (a_ (pv 12) d_)))) d_)))))) g_)))) (f_ (iC (ij nF (gM gD (by rfl) T.jC aav (a_ (zH (pv 0) O.gP O.pz nz hr (a_ (pv 6) (a_ (pv 7) d_))) d_)) gq (iP _)) (f_ (h_ (zH (pv 0) O.gP O.yC Bu hr (a_ (pv 6) (a_ (pv 4) (a_ (pv 7) (a_ (oM O.BW Fs hr (a_ (pv 10) (a_ (pv 9) d_))) d_))))))) (f_ (h_ (zH (pv 0) O.gP O.EU GN hr (a_ (pv 6) (a_ (pv 4) (a_ (pv 7) (a_ (iQ (a_ (gG iO (pv 9) (gM gD (by rfl) T.jC aav (a_ (pv 10) d_))) d_)) d_)))))))))))))))))))),?_⟩
 refine Sh ?_;intro _ _ _ _ _
 have b1:=mod_lt c (stores.length:Int) (by omega)
 obtain⟨st,YL,Nx⟩:=pick (xs:=stores) b1.1 b1.2
 have b2:=mod_lt (c/7) (files.length:Int) (by omega)
 obtain⟨f,YM,hf2⟩:=pick (xs:=files) b2.1 b2.2
 obtain⟨Dy,GO⟩:=xy st Nx
 have gf:=hfg f hf2
 refine⟨_,rfl,_,rfl,_,rfl,ss,_,rfl,.inl (gO.of QV),_,_,rfl,rfl,(by rw[es];omega),ss,_,_,_,rfl,rfl,gO.of QV,(by rw[es];exact YL),?_⟩
 refine⟨_,rfl,_,rfl,_,_,rfl,rfl,⟨by decide,by decide⟩,_,rfl,fs,_,rfl,.inl (gO.of wD),_,_,rfl,rfl,(by rw[ef];omega),fs,_,_,_,rfl,rfl,gO.of wD,(by rw[ef];exact YM),?_⟩
 refine⟨_,rfl,_,_,rfl,rfl,⟨by decide,by decide⟩,_,_,rfl,rfl,(by show(0:Int)<6;decide),?_⟩
 refine⟨_,rfl,_,_,rfl,rfl,⟨by decide,by decide⟩,?_⟩
 refine⟨_,rfl,d,U.dx,_,rfl,y.hd,KS,_,rfl,_,rfl,d,D,W,st,f,rfl,X,GO,sm,I,λh=>absurd Dy h,λ_ r H1 s1 rG ⟨vs,xF,Ce⟩=>?_⟩
 have DV:=z.row I st f
 have hvl:=aak Ce
 let Jv:=λ(i:Nat) (ys:List V) (Z:St) (H4:Hp)=>∃(YN:Option V),Z=[rr d,rr ss,rr fs,ri c,rs x,some (.bl bk),rs st,rs f,ri (c/11%6),ri (c/66),none,none,none,YN]/\H4=H1/\ys=gw (((D.row st f).take i).map (·.tx))
 refine⟨r,rfl,⟨_,gO.of xF⟩,kR (K:=K) (a:=r) (xs:=vs) (by omega) Jv
  ⟨none,rfl,rfl,rfl⟩ (by rintro _ _ _ _ _ ⟨_,_,e,e2⟩;rw[e,e2];exact⟨gO.of xF,by rw[Ob,Ob,aaC];omega⟩) ?_ ?_⟩
 ·rintro i v ys Z H4 hx ⟨YN,rfl,rfl,rfl⟩
  obtain⟨ln,wz,t,rfl,ht⟩:=ik Ce hx
  refine⟨_,rfl,t,_,_,_,rfl,rfl,pf.of ht,gJ (j:=2) rfl rfl,_,rfl,rfl,?_⟩
  rw[take_snoc wz,aau,ju]
  rfl
 rintro ys Z H4 ⟨YN,rfl,rfl,rfl⟩ UE T9
 rw[hvl,aaq]
 have s2:=s1.new (o:=.lst (gw ((D.row st f).map (·.tx)))) T9
 have UG:(upd H4 UE (.lst (gw ((D.row st f).map (·.tx))))) UE=some (.lst (gw ((D.row st f).map (·.tx)))):=b_
 generalize upd H4 UE (.lst (gw ((D.row st f).map (·.tx))))=H2 at s2 UG
 have X2:=X.same s2
 have LC:(((D.row st f).map (·.tx)).length:Int)=((D.row st f).length:Int):=by rw[Ob]
 have el:∀l:List Str,((gw l).length:Int)=(l.length:Int):=λl=>by simp
 have hasB:∀u,(D.has u).length<=D.made.length:=λu=>by
  rw[Dk.He,Ob];exact aaN _ _
 have QW:∀u,∀v∈D.has u,v∈D.held u/\v∈D.names:=λu v hv=>by
  obtain⟨h1,h2⟩:=aal.mp hv
  exact⟨aah h2,h1⟩
 refine⟨λb' H3=>gs H2 H3/\(b'=true->D.has st≠[]/\bk=true),?_,?_⟩
 ·refine⟨_,rfl,rfl,_,rfl,?_⟩
  refine kF (λ_=>?_) (λ_=>⟨gs.refl _,λz=>by cases z⟩)
  refine⟨_,rfl,_,rfl,?_⟩
  refine kF (λhbk=>?_) (λ_=>⟨gs.refl _,λz=>by cases z⟩)
  refine⟨_,rfl,d,U.dx,_,rfl,s2 _ _ y.hd,qR,_,rfl,d,D,W,st,rfl,X2,GO,jS,λh=>absurd Dy h,λ_ p rH=>?_⟩
  refine⟨p,_,rfl,.inl (gO.of b_),_,_,rfl,rfl,_,rfl,(gs.refl H2).new rH,λh=>⟨λe=>?_,hbk⟩⟩
  rw[e] at h
  exact absurd (aah h) (by decide)
 rintro b' H3 ⟨s23,hb⟩
 have s3:=s2.trans s23
 have X3:=X.same s3
 cases b' with
 | true=>
  have qo:=(hb rfl).1
  have hpos:0<(D.has st).length:=List.length_pos_iff.mpr qo
  refine lX ?_
  refine⟨_,rfl,d,U.dx,_,rfl,s3 _ _ y.hd,MV,_,rfl,_,rfl,_,rfl,d,U.dx,_,rfl,s3 _ _ y.hd,qR,_,rfl,d,D,W,st,rfl,X3,GO,jS,λh=>absurd Dy h,λ_ p rH=>?_⟩
  have s4:=s3.new (o:=.lst (gw (D.has st))) rH
  refine⟨_,rfl,_,rfl,d,U.dx,_,rfl,s4 _ _ y.hd,qR,_,rfl,d,D,W,st,rfl,X.same s4,GO,jS,λh=>absurd Dy h,λ_ p2 A2=>?_⟩
  have s5:=s4.new (o:=.lst (gw (D.has st))) A2
  have b3:=mod_lt (c/66) ((D.has st).length:Int) (by omega)
  obtain⟨o,eo,ho⟩:=pick (xs:=D.has st) b3.1 b3.2
  obtain⟨QX,VY⟩:=QW st o ho
  refine⟨p2,_,rfl,.inl (gO.of b_),_,_,rfl,rfl,(by rw[el];omega),p,_,_,_,rfl,rfl,gO.of (iy A2 b_),(by rw[el];exact eo),?_⟩
  refine⟨d,D,W,st,x,o,rfl,X.same s5,I,jS,GO,gx.Ay,N4 o VY,λh=>absurd Dy h,λ_ h=>absurd gx h,λ_ _ h=>absurd h hx,λ_ _ _ h=>absurd QX h,λ_ _ _ _ H' X' s'=>?_⟩
  exact q H' _ X' (λb o e n=>s' b o (s5 _ _ e) n) (I.back Dy hx QX) (z.keep st (aaI _) (aaI _)) rfl (.inr ⟨_,rfl,λe=>(by rw[(hb rfl).2] at e;cases e),rfl⟩)
 | false=>
 refine jD ?_
 refine⟨λb H4=>gs H3 H4/\(b=true->D.has st≠[]),?_,?_⟩
 ·refine⟨_,rfl,rfl,_,rfl,?_⟩
  refine kF (λ_=>?_) (λ_=>⟨gs.refl _,λz=>by cases z⟩)
  refine⟨_,rfl,_,_,rfl,rfl,(by show(0:Int)<4;decide),rfl,_,rfl,?_⟩
  refine kF (λ_=>?_) (λ_=>⟨gs.refl _,λz=>by cases z⟩)
  refine⟨_,rfl,d,U.dx,_,rfl,s3 _ _ y.hd,qR,_,rfl,d,D,W,st,rfl,X3,GO,jS,λh=>absurd Dy h,λ_ p rH=>?_⟩
  refine⟨p,_,rfl,.inl (gO.of b_),_,_,rfl,rfl,_,rfl,(gs.refl H3).new rH,λh e=>?_⟩
  rw[e] at h
  exact absurd (aah h) (by decide)
 rintro b H4 ⟨QU,hb⟩
 have s4:=s3.trans QU
 have X4:=X.same s4
 cases b with
 | true=>
  have qo:=hb rfl
  obtain⟨zs,la,VZ⟩:∃zs la,D.has st=zs++[la]:=⟨_,_,(List.dropLast_concat_getLast qo).symm⟩
  have Rv:=QW st la (by rw[VZ];simp)
  refine lX ?_
  refine⟨_,rfl,d,U.dx,_,rfl,s4 _ _ y.hd,MW,_,rfl,_,rfl,d,U.dx,_,rfl,s4 _ _ y.hd,qR,_,rfl,d,D,W,st,rfl,X4,GO,jS,λh=>absurd Dy h,λ_ p rH=>?_⟩
  have s5:=s4.new (o:=.lst (gw (D.has st))) rH
  have Nt:Cn (gw (D.has st)) (-1)=some (V.str la):=by rw[VZ,<-ju];exact Ef _ _
  refine⟨_,rfl,p,_,_,_,rfl,rfl,gO.of b_,Nt,?_⟩
  refine⟨d,D,W,st,la,rfl,X.same s5,I,jS,GO,N4 la Rv.2,N4,λh=>absurd Dy h,λ_ h=>absurd Rv.1 h,λ_ _ h=>absurd (I.BP Dy VZ) h,λ_ _ _ H' X' s'=>?_⟩
  exact q H' _ X' (λb o e n=>s' b o (s5 _ _ e) n) (I.drop Dy (I.BP Dy VZ)) ⟨z.up.many,z.up.iE,z.up.jx⟩ rfl (.inl rfl)
 | false=>
 refine jD ?_
 refine⟨_,rfl,_,_,rfl,rfl,_,rfl,?_⟩
 refine kF (λ_=>?_) (λ_=>?_)
 ·have b3:=mod_lt (c/66) (stores.length:Int) (by omega)
  obtain⟨so,Jj,hso⟩:=pick (xs:=stores) b3.1 b3.2
  obtain⟨UH,UI⟩:=xy so hso
  refine⟨_,rfl,_,rfl,_,rfl,ss,_,rfl,.inl (gO.of (s4 _ _ QV)),_,_,rfl,rfl,(by rw[es];omega),ss,_,_,_,rfl,rfl,gO.of (s4 _ _ QV),(by rw[es];exact Jj),?_⟩
  refine⟨_,rfl,d,U.dx,_,rfl,s4 _ _ y.hd,qR,_,rfl,d,D,W,so,rfl,X4,UI,jS,λh=>absurd UH h,λ_ p rH=>?_⟩
  have s5:=s4.new (o:=.lst (gw (D.has so))) rH
  refine⟨_,rfl,p,_,rfl,.inl (gO.of b_),_,_,rfl,rfl,_,rfl,?_⟩
  refine kF (λh=>?_) (λ_=>?_)
  ·have h:0<(D.has so).length:=by have:=aah h;rw[el] at this;omega
   have b4:=mod_lt (c/66/5) ((D.has so).length:Int) (by omega)
   obtain⟨o,eo,ho⟩:=pick (xs:=D.has so) b4.1 b4.2
   obtain⟨QX,VY⟩:=QW so o ho
   refine⟨_,rfl,d,U.dx,_,rfl,s5 _ _ y.hd,Hl,_,rfl,_,rfl,_,rfl,_,rfl,_,_,rfl,rfl,⟨by decide,by decide⟩,_,rfl,p,_,rfl,.inl (gO.of b_),_,_,rfl,rfl,(by rw[el];omega),p,_,_,_,rfl,rfl,gO.of b_,(by rw[el];exact eo),?_⟩
   refine⟨d,D,W,st,so,o,rfl,X.same s5,I,jS,GO,UI,N4 o VY,λh=>absurd Dy h,λ_ h=>absurd UH h,λ_ _ h=>absurd QX h,λ_ _ _ cm H6 H' s6 Ro _ X' s'=>?_⟩
   exact q H' _ X' (λb o e n=>s' b o (by rw[e_ (gv (s6 _ _ (s5 _ _ e)) Ro)];exact s6 _ _ (s5 _ _ e)) n) (I.take Dy VY) ⟨z.up.many,z.up.iE,z.up.jx⟩ rfl (.inl rfl)
  ·exact q _ D (X.same s5) (o6.of s5) I z.up rfl (.inl rfl)
 refine⟨_,rfl,d,U.dx,_,rfl,s4 _ _ y.hd,yE,_,rfl,_,rfl,d,D,W,st,f,rfl,X4,GO,sm,I,λh=>absurd Dy h,λ_ p H5 qs NF rH Lu A2=>?_⟩
 have s5:=s4.trans NF
 have Og:=aak A2
 have UJ:=NF _ _ (QU _ _ (s23 _ _ UG))
 refine⟨p,_,rfl,.inl (gO.of Lu),rfl,_,rfl,?_⟩
 refine kF (λh=>?_) (λh=>?_)
 ·have hq:D.oz st f=[]:=by
   have:=V.int.inj (aah h)
   rw[<-Og] at this
   exact aaK.mp (by omega)
  refine⟨_,rfl,d,U.dx,_,rfl,s5 _ _ y.hd,IJ,_,rfl,_,rfl,_,rfl,_,rfl,_,rfl,UE,(D.row st f).map (·.tx),c/66,rfl,UJ,by rw[Ob];omega,λt H6 ts QN GL ed=>?_⟩
  have s6:=s5.trans QN
  have Tx:=ed.len
  rw[Ob] at Tx
  refine⟨d,t,D,W,st,x,f,ts,rfl,X.same s6,I,sm,aai z.iE (by omega),GO,gx.Ay,gf.Ay,GL,by omega,λh=>absurd Dy h,λ_ h=>absurd ⟨gx,gf⟩ h,λ_ _ _ h=>absurd h hx,λ_ _ _ _ h=>absurd hq h,λ_ _ _ _ _ h=>absurd h ed.ne,λ_ _ _ _ _ _ H' X' s'=>?_⟩
  refine q H' _ X' (λb o e n=>s' b o (s6 _ _ e) n) (I.record Dy hx hq ts) (z.keep st (IV ed) (aai wj.2 (by omega))) rfl (.inr ⟨_,rfl,λ_=>rfl,rfl⟩)
 ·have hq:D.oz st f≠[]:=λe=>h (by rw[<-Og,e];rfl)
  have hrpos:0<(D.row st f).length:=by
   rcases Nat.eq_zero_or_pos (D.row st f).length with e|e
   ·exfalso
    apply hq
    show ki _ (D.row st f)=[]
    rw[aaK.mp e]
    rfl
   ·exact e
  have b3:=mod_lt (c/66) ((D.row st f).length:Int) (by omega)
  refine⟨_,rfl,d,U.dx,_,rfl,s5 _ _ y.hd,PN,_,rfl,_,rfl,_,rfl,_,rfl,_,rfl,UE,_,rfl,.inl (gO.of UJ),_,_,rfl,rfl,(by rw[el,LC];omega),L2.jS,λt ht=>?_⟩
  have s6:=s5.new (o:=.lst [V.int (c/66%((gw ((D.row st f).map (·.tx))).length:Int))]) ht
  refine⟨d,t,D,W,st,x,f,[c/66%((gw ((D.row st f).map (·.tx))).length:Int)],rfl,X.same s6,I,sm,GO,gx.Ay,gf.Ay,b_,by show 1<=1000;decide,λp hp=>?_,λh=>absurd Dy h,λ_ h=>absurd ⟨gx,gf⟩ h,λ_ _ _ h=>absurd h hx,λ_ _ _ _ h=>absurd ?_ h,(λ_ _ _ _ h=>by cases h),λ_ _ _ _ ok _ H' X' s'=>?_⟩
  ·rw[WO.mp hp,el,LC]
   refine abm (m:=108) ?_ (by decide)
   exact aai (Nat.log2_le_self _) (by omega)
  ·rw[el,LC]
   exact⟨⟨b3.1,b3.2⟩,trivial⟩
  ·refine q H' _ X' (λb o e n=>s' b o (s6 _ _ e) n) (I.cut Dy hx λm hm=>?_) (z.keep st (aaI _) (aai (List.length_filterMap_le _ _) (by show 1<=_;omega))) rfl (.inr ⟨_,rfl,λ_=>rfl,rfl⟩)
   obtain⟨pl,_,qU⟩:=ab3.mp hm
   obtain⟨l',DW,rfl⟩:=Option.map_eq_some_iff.mp qU
   exact YO (WW DW)
theorem qT{K:Qqy}{H H':Hp}{a:Addr}{xs:List V}(h:gO K H a xs)(s:gs H H'):gO K H' a xs:=by
 rcases h with(h|⟨u,h⟩)|h
 ·exact .inl (.inl (s _ _ h))
 ·exact .inl (.inr ⟨u,s _ _ h⟩)
 ·exact .inr h
abbrev Fg(ns:List Int)(i:Int):Int:=cellAt ns i%20736
noncomputable def uY(ns:List Int):List Str:=[nameOf (Fg ns 0) 0,nameOf (Fg ns 0) 1,nameOf (Fg ns 0) 2]
noncomputable def tQ(ns:List Int):List Str:=[nameOf (Fg ns 1) 0,nameOf (Fg ns 1) 1]
theorem B6(ns:List Int):(uY ns).Nodup:=by
 have h:∀i j:Int,0<=i->i<36->0<=j->j<36->i≠j->nameOf (Fg ns 0) i≠nameOf (Fg ns 0) j:=λi j a b c d e z=>e (Fd a b c d z)
 unfold uY
 simp only [aaW,XH,acg,or_false,not_or,aa9,and_true]
 exact⟨⟨h 0 1 (by decide) (by decide) (by decide) (by decide) (by decide),h 0 2 (by decide) (by decide) (by decide) (by decide) (by decide)⟩,h 1 2 (by decide) (by decide) (by decide) (by decide) (by decide),by simp⟩
theorem wo{ns:List Int}:∀s∈uY ns,Good s:=by
 intro s hs
 unfold uY at hs
 simp only [XH,acg,or_false] at hs
 rcases hs with rfl|rfl|rfl<;>exact qm _ _
theorem K6{ns:List Int}:∀s∈tQ ns,Good s:=by
 intro s hs
 unfold tQ at hs
 simp only [XH,acg,or_false] at hs
 rcases hs with rfl|rfl<;>exact qm _ _
structure Built(A:Ad)(ns:List Int)(n:Nat)(H H':Hp)(b d ss fs:Addr)(D:Dk)(W:Addr->Prop):Prop where
 same:gs H H'
 fresh:H b=none
 at_:H' b=some (.lst [.ref d,.ref ss,.ref fs])
 st:H' ss=some (.lst (gw (uY ns)))
 fl:H' fs=some (.lst (gw (tQ ns)))
 W_:ip A H' d D W
 own:∀x,W x->H x=none
 inv:Inv D
 sz:Sz n D
 stores:D.stores=uY ns
 names:∀x∈D.names,∃j:Nat,j<n/\x=nameOf (Fg ns 3) j
def P9(K:PySem.W.Frag)(A:Ad):Sp:=λvs H Q _=>∃(a:Addr)(ns:List Int)(first:Int)(n:Nat)(bk:Bool),vs=[.ref a,.int first,.int n,.bl bk]/\gO K H a (ns.map V.int)/\ns.length<=1000/\0<=first/\first<=1000/\n<=35/\∀b d ss fs D W H',Built A ns n H H' b d ss fs D W->(bk=false->∀p∈D.made,p.other=none)->Q (.ref b) H'
theorem Nc(T:Txt mg)(O:Ok K mg A):il P w K mg base mD 8 A.yx A.yy ["script","first","most","backs"] (P9 K A):=by
 have yZ:=@De P w K mg base A T O
 have Dz:=(@K0 P w K mg base A T O).Ij
 have sY:=@M8 P w K mg base A T O
 have iS:=@Hs P w K mg base A T O
 have Ft:=@M9 P w K mg base A T O
 have Fu:=@Nb P w K mg base A T O
 refine O.BY.f.q_ jc λjt A0 outer s H vs Q E hr h=>?_
 obtain⟨a,ns,first,n,bk,rfl,ha,QK,hf0,hf1,hn,q⟩:=h
 have sz:sizeLine=16777216:=aaw
 refine⟨_,(de (k8 4 jc (JD O.Po yZ (hr.mono (by decide)) rfl O.Pp O.uo.b .nil pR))
   (de (En (j:=5) sh (gr mH).names [8] jc.nd rfl rfl rfl (jE rfl T.kE (a_ gq d_)) rfl (by decide+kernel) (λ_ _ _ _=>(iK (i:=8) jc.nd rfl (Or.inl rfl))) (λ_ _ _ _=>nV) (λ_ _ _ _=>CD (oM O.tJ sY hr (a_ (gG iO (oM O.jd iS hr (a_ (pv 0) (a_ gq d_))) gq) (a_ (pv 8) d_)))))
   (de (En (j:=6) sh (gr mH).names [8] jc.nd rfl rfl rfl (jE rfl T.kE (a_ gq d_)) rfl (by decide+kernel) (λ_ _ _ _=>(iK (i:=8) jc.nd rfl (Or.inl rfl))) (λ_ _ _ _=>nV) (λ_ _ _ _=>CD (oM O.tJ sY hr (a_ (gG iO (oM O.jd iS hr (a_ (pv 0) (a_ gq d_))) gq) (a_ (pv 8) d_)))))
   (de (ix aar rfl (iq (pv 5)) (rF 7 jc) (f_ (h_ (zH (pv 4) O.gP O.Ak Dz hr (a_ (pv 7) d_)))))
   (de (ix aar rfl (jE rfl T.kE (a_ (pv 2) d_)) (rF 8 jc) (de (k8 9 jc (oM O.jd iS hr (a_ (pv 0) (a_ (gG iG (pv 1) (pv 8)) d_))))
   (de (uB (iC (ij RZ (gG iG (pv 1) (pv 8)) (gM gD (by rfl) T.jC aav (a_ (pv 0) d_)) (iP _)) (f_ (k8 9 jc (oM O.BV Ft hr (a_ (oM O.jd iS hr (a_ (pv 0) (a_ gq d_))) (a_ (pv 8) (a_ gq d_)))))) g_))
   (f_ (h_ (oM O.BX Fu hr (a_ (pv 4) (a_ (pv 5) (a_ (pv 6) (a_ (pv 9) (a_ (oM O.tJ sY hr (a_ (gG iO (oM O.jd iS hr (a_ (pv 0) (a_ gq d_))) gq) (a_ (pv 8) d_))) (a_ (pv 3) d_))))))))))))
   (f_ (gZ (iQ (a_ (pv 4) (a_ (pv 5) (a_ (pv 6) d_))))))))))),?_⟩
 refine Sh ?_;intro _ _ _ _ _
 intro d px nd Yz nxd
 refine⟨d,px,rfl,b_,λH1 W X1 hW k1=>⟨rfl,?_⟩⟩
 have s0:gs H (upd (upd H px (.own d)) d (.ins A.gB px [])):=λb o e=>by rw[e_ (gv e nd),e_ (gv e Yz)];exact e
 have s1:gs H H1:=λb o e=>k1 b o (s0 b o e) (gv e nd)
 have hW0:∀b,W b->H b=none:=λb hb=>s0.free (hW b hb)
 refine⟨_,rfl,by decide,by decide,?_⟩
 let Jv:=λ(m:Nat) (ys:List V) (Z:St) (H2:Hp)=>∃(v8:Option V),Z=[rr a,ri first,ri n,some (.bl bk),rr d,none,none,none,v8,none]/\H2=H1/\ys=gw ((List.range m).map λ(j:Nat)=>nameOf (Fg ns 0) j)
 refine vw (n:=3) (by decide) Jv ⟨none,rfl,rfl,rfl⟩ (by rintro _ _ _ _ ⟨_,_,_,e⟩;rw[e];simp) ?_ ?_
 ·rintro m ys Z H2 hm ⟨v8,rfl,rfl,rfl⟩
  refine⟨_,rfl,a,ns,0,rfl,qT ha s1,by decide,_,_,rfl,rfl,(by show(0:Int)<20736;decide),_,rfl,_,_,rfl,?_⟩
  refine⟨_,rfl,rfl,?_⟩
  rw[List.range_succ,aau,<-nY]
  show _++[V.str (nameOf (Fg ns 0) (0+(m:Int)))]=_
  rw[Int.zero_add]
  rfl
 rintro ys Z H2 ⟨v8,rfl,rfl,rfl⟩ ss QV
 have s2:=s1.new (o:=.lst (gw (uY ns))) QV
 have X2:=X1.same ((gs.refl H2).new (o:=.lst (gw (uY ns))) QV)
 have UK:(upd H2 ss (.lst (gw (uY ns)))) ss=some (.lst (gw (uY ns))):=b_
 have YL:gw ((List.range 3).map λ(j:Nat)=>nameOf (Fg ns 0) j)=gw (uY ns):=rfl
 rw[YL]
 generalize upd H2 ss (.lst (gw (uY ns)))=H3 at s2 X2 UK
 refine⟨_,rfl,by decide,by decide,?_⟩
 let Jv:=λ(m:Nat) (ys:List V) (Z:St) (H2:Hp)=>∃(v8:Option V),Z=[rr a,ri first,ri n,some (.bl bk),rr d,rr ss,none,none,v8,none]/\H2=H3/\ys=gw ((List.range m).map λ(j:Nat)=>nameOf (Fg ns 1) j)
 refine vw (n:=2) (by decide) Jv ⟨none,rfl,rfl,rfl⟩ (by rintro _ _ _ _ ⟨_,_,_,e⟩;rw[e];simp) ?_ ?_
 ·rintro m ys Z H2 hm ⟨v8,rfl,rfl,rfl⟩
  refine⟨_,rfl,a,ns,1,rfl,qT ha s2,by decide,_,_,rfl,rfl,(by show(0:Int)<20736;decide),_,rfl,_,_,rfl,?_⟩
  refine⟨_,rfl,rfl,?_⟩
  rw[List.range_succ,aau,<-nY]
  show _++[V.str (nameOf (Fg ns 1) (0+(m:Int)))]=_
  rw[Int.zero_add]
  rfl
 rintro ys Z H4 ⟨v8,rfl,rfl,rfl⟩ fs wD
 have YM:gw ((List.range 2).map λ(j:Nat)=>nameOf (Fg ns 1) j)=gw (tQ ns):=rfl
 rw[YM]
 have s3:=s2.new (o:=.lst (gw (tQ ns))) wD
 have X3:=X2.same ((gs.refl H4).new (o:=.lst (gw (tQ ns))) wD)
 have QY:=iy (u:=.lst (gw (tQ ns))) wD UK
 have UL:(upd H4 fs (.lst (gw (tQ ns)))) fs=some (.lst (gw (tQ ns))):=b_
 generalize upd H4 fs (.lst (gw (tQ ns)))=H5 at s3 X3 QY UL
 dsimp only [nE];refine LN ?_;intro _
 let Jv:=λ(i:Nat) (Z:St) (H6:Hp)=>∃(v7:Option V)(D:Dk)(W:Addr->Prop),Z=[rr a,ri first,ri n,some (.bl bk),rr d,rr ss,rr fs,v7,none,none]/\gs H H6/\H6 ss=some (.lst (gw (uY ns)))/\H6 fs=some (.lst (gw (tQ ns)))/\ip A H6 d D W/\(∀b,W b->H b=none)/\Inv D/\D.made=[]/\D.stores=(uY ns).take i
 refine⟨_,rfl,ss,rfl,⟨_,gO.of QY⟩,iV (K:=K) (a:=ss) (xs:=gw (uY ns)) Jv
  ⟨none,Ve,W,rfl,s3,QY,UL,X3,hW0,W9,rfl,rfl⟩ (by rintro _ _ _ _ ⟨_,_,_,_,_,e,_⟩;exact gO.of e) ?_ ?_⟩
 ·rintro i v Z H6 hx ⟨v7,D,W,rfl,s6,h1,h2,X6,UM,I6,QZ,Q0⟩
  obtain⟨st,xy,rfl⟩:=mx hx
  have g:=wo st (WW xy)
  have Rm:i<3:=(List.getElem?_eq_some_iff.mp xy).1
  have NA:st∉D.stores:=λhm=>by
   rw[Q0] at hm
   obtain⟨j,hj⟩:=aaG.mp hm
   have Jk:j<i:=by have:=(List.getElem?_eq_some_iff.mp hj).1;rw[aaC] at this;omega
   rw[abN,aan Jk] at hj
   have:=(abJ (List.getElem?_eq_some_iff.mp hj).1 (B6 ns)).mp (hj.trans xy.symm)
   omega
  obtain⟨U,y⟩:=id X6
  refine⟨_,rfl,d,U.dx,_,rfl,y.hd,KW,_,rfl,d,D,W,st,rfl,X6,g.Ay,?_,λh=>absurd g h,λ_ h=>absurd h NA,λ_ _ H7 W7 X7 s7 hW7=>?_⟩
  ·rw[Q0,aaC];omega
  ·refine⟨_,D.begin st,W7,rfl,λb o e=>?_,s7 _ _ h1 (X6.lst h1),s7 _ _ h2 (X6.lst h2),X7,λb hb=>?_,I6.begin NA,QZ,?_⟩
   ·exact s7 b o (s6 _ _ e) (λhb=>by rw[UM b hb] at e;cases e)
   ·rcases hW7 b hb with h|h
    ·exact UM b h
    ·exact s6.free h
   ·show D.stores++[st]=_
    rw[Q0,take_snoc xy]
 rintro Z H6 ⟨v7,D0,W,rfl,s6,h1,h2,X6,UM,I6,QZ,Q0⟩
 have Q0:D0.stores=uY ns:=by rw[Q0,Ob];exact aaq
 refine⟨_,rfl,_,rfl,by omega,by omega,?_⟩
 rw[abF]
 let Jv:=λ(i:Nat) (Z:St) (H7:Hp)=>∃(v8 v9:Option V)(D:Dk),Z=[rr a,ri first,ri n,some (.bl bk),rr d,rr ss,rr fs,v7,v8,v9]/\gs H H7/\H7 ss=some (.lst (gw (uY ns)))/\H7 fs=some (.lst (gw (tQ ns)))/\ip A H7 d D W/\Inv D/\Sz i D/\D.stores=uY ns/\(∀x∈D.names,∃j:Nat,j<i/\x=nameOf (Fg ns 3) j)/\(bk=false->∀p∈D.made,p.other=none)
 refine jX Jv
  ⟨none,none,D0,rfl,s6,h1,h2,X6,I6,⟨by rw[QZ];exact WR _,by rw[QZ];exact WR _,by rw[QZ];exact WR _⟩,Q0,λx hx=>(by unfold Dk.names at hx;rw[QZ] at hx;cases hx),λ_ p hp=>by rw[QZ] at hp;cases hp⟩ ?_ ?_
 ·rintro i Z H7 hi ⟨v8,v9,D,rfl,s7,k1,k2,X7,I7,z7,V0,Ol,V1⟩
  rw[show(0:Int)+(i:Int)=(i:Int) by omega]
  refine⟨_,rfl,_,rfl,_,rfl,_,_,rfl,rfl,a,ns,_,rfl,qT ha s7,by omega,?_⟩
  refine⟨λZ H8=>∃c:Int,Z=[rr a,ri first,ri n,some (.bl bk),rr d,rr ss,rr fs,v7,ri i,ri c]/\H8=H7,?_,?_⟩
  ·refine⟨_,rfl,_,rfl,_,_,rfl,rfl,_,rfl,a,_,rfl,.inl (qT ha s7),_,_,rfl,rfl,_,rfl,?_⟩
   refine kF (λ_=>?_) (λ_=>⟨_,rfl,rfl⟩)
   refine⟨_,rfl,a,ns,2,rfl,qT ha s7,by decide,_,rfl,_,_,_,rfl,by decide,by omega,by omega,λx _ _=>⟨x,rfl,rfl⟩⟩
  rintro Z H8 ⟨c,rfl,rfl⟩
  refine⟨_,rfl,_,rfl,_,rfl,_,rfl,_,rfl,a,ns,3,rfl,qT ha s7,by decide,_,_,rfl,rfl,(by show(0:Int)<20736;decide),_,rfl,_,_,rfl,_,rfl,?_⟩
  have gx:=qm (Fg ns 3) (i:Int)
  refine⟨d,ss,fs,D,W,i,uY ns,tQ ns,c,_,bk,rfl,X7,I7,z7,by omega,k1,(by unfold uY;simp),(by show 3<=1000;decide),λt ht=>⟨by rw[V0];exact ht,(wo t ht).Ay⟩,k2,(by unfold tQ;simp),(by show 2<=1000;decide),K6,gx,λhm=>?_,λt ht=>?_,λH9 D' X9 s9 I9 z9 hs9 hn9=>?_⟩
  ·obtain⟨j,hj,e⟩:=Ol _ hm
   have:=Fd (by omega) (by omega) (by omega) (by omega) e
   omega
  ·obtain⟨j,hj,e⟩:=Ol _ ht
   rw[e];exact(qm _ _).Ay
  ·refine⟨_,_,D',rfl,λb o e=>s9 b o (s7 _ _ e) (λhb=>by rw[UM b hb] at e;cases e),s9 _ _ k1 (X7.lst k1),s9 _ _ k2 (X7.lst k2),X9,I9,z9,hs9.trans V0,?_⟩
   have up:∀t∈D.names,∃j:Nat,j<i+1/\t=nameOf (Fg ns 3) j:=λt ht=>by
    obtain⟨j,hj,e⟩:=Ol _ ht
    exact⟨j,by omega,e⟩
   unfold Dk.names
   rcases hn9 with e|⟨p,e1,e2,e⟩
   ·rw[e]
    exact⟨up,V1⟩
   ·rw[e]
    refine⟨λt ht=>?_,λhb p' GB=>?_⟩
    ·rw[aau] at ht
     rcases ZU.mp ht with ht|ht
     ·exact up t ht
     ·exact⟨i,by omega,(WO.mp ht).trans e1⟩
    ·rcases ZU.mp GB with GB|GB
     ·exact V1 hb p' GB
     ·rw[WO.mp GB];exact e2 hb
 ·rintro Z H7 ⟨v8,v9,D,rfl,s7,k1,k2,X7,I7,z7,V0,Ol,V1⟩
  refine⟨_,rfl,_,rfl,_,rfl,L2.jS,λb hb=>?_⟩
  have s8:=s7.new (o:=.lst [.ref d,.ref ss,.ref fs]) hb
  exact q b d ss fs D W _ ⟨s8,s7.free hb,b_,iy hb k1,iy hb k2,X7.same ((gs.refl H7).new hb),UM,I7,z7,V0,Ol⟩ V1
end
inductive Dv where
 | o
 | s (x:Str)
 | i (n:Int)
 | l (xs:List Dv)
 | t (xs:List Dv)
inductive Rep(H:Hp):Nat->V->Dv->Prop
 | o {n}:Rep H n .jg .o
 | s {n x}:Rep H n (.str x) (.s x)
 | i {n x}:Rep H n (.int x) (.i x)
 | l {n a vs xs} (h:H a=some (.lst vs)) (hl:vs.length=xs.length) (hr:∀(j:Nat) u d,vs[j]?=some u->xs[j]?=some d->Rep H n u d):Rep H (n+1) (.ref a) (.l xs)
 | t {n a vs xs} (h:H a=some (.tup vs)) (hl:vs.length=xs.length) (hr:∀(j:Nat) u d,vs[j]?=some u->xs[j]?=some d->Rep H n u d):Rep H (n+1) (.ref a) (.t xs)
theorem Rep.up{H:Hp}{n:Nat}{v:V}{d:Dv}(r:Rep H n v d):Rep H (n+1) v d:=by
 induction r with
 | o=>exact .o
 | s=>exact .s
 | i=>exact .i
 | l h hl _ ih=>exact .l h hl ih
 | t h hl _ ih=>exact .t h hl ih
theorem Rep.mono{H:Hp}{n m:Nat}{v:V}{d:Dv}(r:Rep H n v d)(h:n<=m):Rep H m v d:=by
 obtain⟨k,rfl⟩:=Nat.exists_eq_add_of_le h
 induction k with
 | zero=>exact r
 | succ k ih=>exact(ih (by omega)).up
theorem all_true(n:Nat):((List.range n).all λ_=>true)=true:=by rw[abq];intro x _;rfl
theorem Rep.eq{K:Qqy}{H:Hp}{n:Nat}{u v:V}{d:Dv}(r1:Rep H n u d):Rep H n v d->lY K H n u v true:=by
 induction r1 generalizing v with
 | @o n=>
  intro r2
  cases r2
  exact lY.flat (K:=K) (H:=H) (n:=n) (x:=V.jg) (y:=V.jg) rfl rfl
 | @s n x=>
  intro r2
  cases r2
  have:=lY.Cy (K:=K) (H:=H) (n:=n) x x
  rw[WV rfl] at this
  exact this
 | @i n x=>
  intro r2
  cases r2
  have:=lY.Cz (K:=K) (H:=H) (n:=n) x x
  rw[WV rfl] at this
  exact this
 | @l n a vs xs h hl hr ih=>
  intro r2
  cases r2 with
  | @l _ c ws _ h' DW UN=>
   have:=lY.lists (K:=K) (H:=H) (n:=n) (e:=λ_=>true) (gO.of h) (gO.of h') (hl.trans DW.symm) λj u v hu hv=>by
    have hj:j<xs.length:=by rw[<-hl];exact(List.getElem?_eq_some_iff.mp hu).1
    exact ih j u _ hu (TH hj) (UN j v _ hv (TH hj))
   rw[all_true] at this
   exact this
 | @t n a vs xs h hl hr ih=>
  intro r2
  cases r2 with
  | @t _ c ws _ h' DW UN=>
   have:=lY.pN (K:=K) (H:=H) (n:=n) (e:=λ_=>true) (pf.of h) (pf.of h') λj u v hu hv=>by
    have hj:j<xs.length:=by rw[<-hl];exact(List.getElem?_eq_some_iff.mp hu).1
    exact ih j u _ hu (TH hj) (UN j v _ hv (TH hj))
   rw[all_true,hl,DW,beq_self_eq_true,Bool.and_true] at this
   exact this
theorem Rep.B7{H:Hp}{n:Nat}{a:Addr}{Y:Type}{F:V->Y->Prop}{g:Y->Dv}{vs:List V}{xs:List Y}(h:H a=some (.lst vs))(p:Paired F vs xs)(hF:∀v x,F v x->Rep H n v (g x)):Rep H (n+1) (.ref a) (.l (xs.map g)):=by
 refine .l h (by rw[Ob];exact aak p) λj u d hu hd=>?_
 obtain⟨x,hx,f⟩:=ik p hu
 rw[aam,hx] at hd
 cases hd
 exact hF u x f
def SW(row:List Ln):Dv:=.l (row.map λl=>.t [.s l.nm.1,.i l.nm.2,.s l.tx])
def Z1(qs:List (Nat×Nat)):Dv:=.l (qs.map λq=>.t [.i q.1,.i q.2])
theorem nM.rep{H:Hp}{a:Addr}{row:List Ln}(x:nM H a row):Rep H 2 (.ref a) (SW row):=by
 obtain⟨vs,h,p⟩:=x
 refine Rep.B7 h p λv l ⟨t,e,ht⟩=>?_
 subst e
 refine .t ht rfl λj u d hu hd=>?_
 match j with
 | 0=>cases hu;cases hd;exact .s
 | 1=>cases hu;cases hd;exact .i
 | 2=>cases hu;cases hd;exact .s
 | j+3=>simp at hu
theorem B8{H:Hp}{a:Addr}{vs:List V}{qs:List (Nat×Nat)}(h:H a=some (.lst vs))(x:iF H qs vs):Rep H 2 (.ref a) (Z1 qs):=by
 refine .l h (by rw[Ob];exact(aak x).symm) λj u d hu hd=>?_
 obtain⟨q,hq,b,e,hb⟩:=iY x hu
 subst e
 rw[aam,hq] at hd
 cases hd
 refine .t hb rfl λj u d hu hd=>?_
 match j with
 | 0=>cases hu;cases hd;exact .i
 | 1=>cases hu;cases hd;exact .i
 | j+2=>simp at hu
end PK
namespace L2
open PySem PySem.Spec PyProof.Rows
noncomputable def eV:Value->V
 | .bool b=>.bl b
 | .int i _=>.int i
 | .str z _=>.str z
 | .bytes b _=>.D1 b
 | .float b _=>.LK b
 | .ref a=>.ref a
 | .type n=>.ty n
 | _=>.jg
theorem Hu{y:V}{u:Value}(r:RelV y u):eV u=y:=by
 cases y with
 | jg=>cases r;rfl
 | bl b=>cases r;rfl
 | int i=>obtain⟨t,rfl⟩:=r;rfl
 | str z=>obtain⟨t,rfl⟩:=r;rfl
 | D1 z=>obtain⟨t,rfl⟩:=r;rfl
 | LK z=>obtain⟨t,rfl⟩:=r;rfl
 | ref a=>cases r;rfl
 | ty n=>cases r;rfl
theorem Gw{g:V->Bool}:∀{xs:List V} {us:List Value},Vals xs us->us.any (λu=>g (eV u))=xs.any g
 | _,_,.nil=>rfl
 | y::xs,u::us,.cons r t=>by rw[abX,abX,Hu r,Gw t]
section
variable{X:Cx}
def SX(K:Qqy)(n:Nat)(neg:Bool):R2:=λx y H Q=>∃p xs,∃g:V->Bool,y=.ref p/\gO K H p xs/\(∀z∈xs,lY K H n z x (g z))/\Q (.bl (if neg then !xs.any g else xs.any g)) H
theorem Hv{c_:Qqz}{Z:St}{H:Hp}{s:Shared}{n:Nat}{xs:List V}{gU:List Value}{x:V}{v:Value}{g:V->Bool}(hu:X.A.units+n+1<cLine)(I:Inv X c_ Z H s)(r:Vals xs gU)(rx:RelV x v)(hg:∀z∈xs,lY X.K H n z x (g z)):∀w∈gU.toArray,SeqAt.EqAt X.A.in1 s w v (g (eV w)):=λw hw=>by
 have hw:w∈gU:=by simpa using hw
 obtain⟨j,hj,rfl⟩:=List.mem_iff_getElem.mp hw
 have hl:=r.length
 obtain⟨u,NC,ru⟩:=r.get (TH (i:=j) (by omega))
 rw[TH hj] at NC
 cases NC
 rw[Hu ru]
 exact(hg _ (acj _)).at I X.A.in1 _ _ ru rx (by show X.A.units+1+n<cLine;omega)
theorem Dq(n:Nat)(hu:X.A.units+n+1<cLine):wC X (compareOp .In) (SX X.K n false):=by
 intro c_ s Z H x y v u Q I rx ry h
 obtain⟨p,xs,g,rfl,hq,hg,q⟩:=h
 cases ry
 obtain⟨gU,r,pl,hz⟩:=I.list hq
 refine SeqAt.in_listAt (λw=>g (eV w)) pl.isList (Hv hu I r rx hg) ⟨.bl _,H,I,rfl,?_⟩
 rw[show gU.toArray.any (λw=>g (eV w))=gU.any (λw=>g (eV w)) by simp,Gw r]
 exact q
theorem B9(n:Nat)(hu:X.A.units+n+1<cLine):wC X (compareOp .NotIn) (SX X.K n true):=by
 intro c_ s Z H x y v u Q I rx ry h
 obtain⟨p,xs,g,rfl,hq,hg,q⟩:=h
 cases ry
 obtain⟨gU,r,pl,hz⟩:=I.list hq
 refine SeqAt.notIn_listAt (λw=>g (eV w)) pl.isList (Hv hu I r rx hg) ⟨.bl _,H,I,rfl,?_⟩
 rw[show gU.toArray.any (λw=>g (eV w))=gU.any (λw=>g (eV w)) by simp,Gw r]
 exact q
end
section
variable{X:Cx}{tg:Expr}
end
section
variable{X:Cx}
def Nd(K:Qqy)(n:Nat):V->List V->Hp->VK->Prop:=λx vs H Q=>∃l xs y j,∃g:V->Bool,x=.ref l/\vs=[y]/\H l=some (.lst xs)/\j<1000/\(∀z∈xs,lY K H n z y (g z))/\(∃z,xs[j]?=some z/\g z=true)/\(∀m z,m<j->xs[m]?=some z->g z=false)/\Q (.int (j:Nat)) H
theorem B_(n:Nat)(hu:X.A.units+n+1<cLine):U_ X "list.index" (Nd X.K n):=by
 intro c_ s Z H x vs v us Q I rx rv h
 obtain⟨l,xs,u,j,g,rfl,rfl,hH,hj,hg,⟨z,hz,hgz⟩,hno,q⟩:=h
 cases rx
 obtain⟨w,rfl,rw_⟩:=rv.one
 obtain⟨sz,gU,m,r,hl,e⟩:=I.Eg hH
 have hjx:j<xs.length:=(List.getElem?_eq_some_iff.mp hz).1
 have hlen:=r.length
 have gt:∀{i:Nat} {z:V} (hi:i<gU.length),xs[i]?=some z->eV gU[i]=z:=λhi hz=>by
  obtain⟨y,hy,ry⟩:=r.get hz
  rw[TH hi] at hy
  cases hy
  exact Hu ry
 refine call_meets F.slot_list_index ⟨_,e,rfl⟩ F.entry_list_index (F.args_list_index_2 _ _) (SeqAt.list_indexAt l gU.toArray m none #[] w (λy=>g (eV y)) j (by simp;omega) (by omega) ?_ ?_) ⟨e,λy hy=>?_,?_⟩
 ·show g (eV gU[j])=true
  rw[gt (by omega) hz]
  exact hgz
 ·intro i hi jT
  show g (eV gU[i])=false
  have hix:i<xs.length:=by omega
  rw[gt (by omega) (TH hix)]
  exact hno i _ jT (TH hix)
 ·have hy:y∈gU:=by simpa using hy
  obtain⟨i,hi,rfl⟩:=List.mem_iff_getElem.mp hy
  obtain⟨u',NC,ru⟩:=r.get (TH (i:=i) (by omega))
  rw[TH hi] at NC
  cases NC
  rw[Hu ru]
  exact(hg _ (acj _)).at I _ _ _ ru rw_ (by show X.A.units+1+n<cLine;omega)
 ·exact⟨.int j,H,I.tok _,⟨_,rfl⟩,q⟩
end
open PySem PySem.W PyProof.Rows
section
variable(n:Nat)(o:Nat->Nat->Bool)
def xv{Z:Type}:KasT Z->Z
 | .ret a=>a
 | .ask i j k=>xv (k (o i j))
def Gd{Z:Type}:KasT Z->Prop
 | .ret _=>True
 | .ask i j k=>i<n/\j<n/\Gd (k (o i j))
def Rn{Z:Type}(t:KasT Z)(P:Z->Prop):Prop:=Gd n o t/\P (xv o t)
variable{n o}
theorem Rn.ret{Z:Type}{a:Z}{P:Z->Prop}(h:P a):Rn n o (.ret a) P:=⟨trivial,h⟩
theorem Rn.ask{Z:Type}{i j:Nat}{k:Bool->KasT Z}{P:Z->Prop}(hi:i<n)(hj:j<n)(h:Rn n o (k (o i j)) P):Rn n o (.ask i j k) P:=⟨⟨hi,hj,h.1⟩,h.2⟩
theorem yG{Z Y:Type}{f:Z->KasT Y}:∀t:KasT Z,xv o (t.bind f)=xv o (f (xv o t))
 | .ret a=>rfl
 | .ask i j k=>yG (k (o i j))
theorem HA{Z Y:Type}{f:Z->KasT Y}:∀t:KasT Z,Gd n o t->Gd n o (f (xv o t))->Gd n o (t.bind f)
 | .ret a,_,h=>h
 | .ask i j k,h,h'=>⟨h.1,h.2.1,HA (k (o i j)) h.2.2 h'⟩
theorem Rn.bind{Z Y:Type}{t:KasT Z}{f:Z->KasT Y}{P:Y->Prop}(h:Rn n o t λa=>Rn n o (f a) P):Rn n o (t.bind f) P:=⟨HA t h.1 h.2.1,by rw[yG];exact h.2.2⟩
theorem Rn.mono{Z:Type}{t:KasT Z}{P P':Z->Prop}(h:Rn n o t P)(hp:∀a,P a->P' a):Rn n o t P':=⟨h.1,hp _ h.2⟩
theorem Rn.wp{Z:Type}{cmp:Nat->Nat->(Bool->Shared->Prop)->Shared->Prop}{Q:Z->Shared->Prop}{s:Shared}(hc:∀i j C,i<n->j<n->C (o i j) s->cmp i j C s):∀{t:KasT Z} {P:Z->Prop},Rn n o t P->(∀a,P a->Q a s)->t.kasWp cmp Q s
 | .ret a,P,h,hq=>hq a h.2
 | .ask i j k,P,h,hq=>hc i j _ h.1.1 h.1.2.1 (Rn.wp hc (t:=k (o i j)) ⟨h.1.2.2,h.2⟩ hq)
end
section
variable{n:Nat}{k:Nat->Nat}
def Pm(n:Nat)(p:Array Nat):Prop:=p.toList.Perm (List.range n)
theorem Pm.size{p:Array Nat}(h:Pm n p):p.size=n:=by rw[<-aaL,List.Perm.length_eq h,abH]
theorem Pm.lt{p:Array Nat}(h:Pm n p)(hn:0<n)(i:Nat):p.getD i 0<n:=by
 unfold Array.getD
 split
 ·rename_i hi
  have:p[i]∈p.toList:=by simp
  exact abf.mp (List.Perm.subset h this)
 ·exact hn
theorem Pm.perm{p q:Array Nat}(h:Pm n p)(hq:q.Perm p):Pm n q:=(Array.perm_iff_toList_perm.mp hq).trans h
def kr(k:Nat->Nat)(p:Array Nat)(i:Nat):Nat:=k (p.getD i 0)
theorem sU{p q:Array Nat}{i j:Nat}(h:p[i]?=q[j]?):kr k p i=kr k q j:=by
 unfold kr
 rw[Array.getD_eq_getD_getElem?,Array.getD_eq_getD_getElem?,h]
theorem Gx{p:Array Nat}{i j:Nat}(hj:j<=p.size)(x:Nat):kr k (kas_rev p i j) x=if i<=x/\x<j then kr k p (i+j-1-x) else kr k p x:=by
 have e:=getElem?_mirror_all (i:=i) hj x
 unfold kas_rev
 by_cases h1:i<=x/\x<j
 ·rw[aan h1] at e ⊢;exact sU e
 ·rw[aac h1] at e ⊢;exact sU e
theorem Dr{p:Array Nat}{i j:Nat}(hj:j<=p.size)(heq:∀x,i<=x->x<j->kr k p x=kr k p (j-1))(x:Nat):kr k (kas_rev p i j) x=kr k p x:=by
 rw[Gx hj]
 split
 ·rw[heq _ (by omega) (by omega),heq x (by omega) (by omega)]
 ·rfl
theorem K7{p:Array Nat}{src d:Nat}(hs:src<p.size)(hd:d<=src)(x:Nat):kr k (bubble p src d) x=if x=src-d then kr k p src else if src-d<x/\x<=src then kr k p (x-1) else kr k p x:=by
 have e:=getElem?_bubble hs d hd x
 by_cases h1:x=src-d
 ·rw[aan h1] at e ⊢;exact sU e
 ·rw[aac h1] at e ⊢
  by_cases h2:src-d<x/\x<=src
  ·rw[aan h2] at e ⊢;exact sU e
  ·rw[aac h2] at e ⊢;exact sU e
def IW(k:Nat->Nat)(p:Array Nat)(m:Nat):Prop:=∀i j,i<=j->j<m->kr k p i<=kr k p j
def SY(k:Nat->Nat)(p:Array Nat)(m:Nat):Prop:=∀i j,i<=j->j<m->kr k p j<=kr k p i
abbrev IX(k:Nat->Nat):Nat->Nat->Bool:=λi j=>decide (k i<k j)
theorem Rn.ak{p:Array Nat}{Z:Type}{i j:Nat}{f:Bool->KasT Z}{P:Z->Prop}(hp:Pm n p)(hn:0<n)(h1:kr k p i<kr k p j->Rn n (IX k) (f true) P)(h0:¬kr k p i<kr k p j->Rn n (IX k) (f false) P):Rn n (IX k) (.ask (p.getD i 0) (p.getD j 0) f) P:=by
 refine .ask (hp.lt hn _) (hp.lt hn _) ?_
 by_cases h:kr k p i<kr k p j
 ·rw[show IX k (p.getD i 0) (p.getD j 0)=true from WV h]
  exact h1 h
 ·rw[show IX k (p.getD i 0) (p.getD j 0)=false from ZW h]
  exact h0 h
theorem Gy{p:Array Nat}(hp:Pm n p)(hn:0<n):∀f a,1<=a->IW k p a->Rn n (IX k) (kas_asc p f a) λm=>a<=m/\m<=a+f/\IW k p m/\(m=a+f\/kr k p m<kr k p (m-1))
 | 0,a,ha,hs=>.ret ⟨WR _,WR _,hs,.inl rfl⟩
 | f+1,a,ha,hs=>by
  refine .ak hp hn (λh=>?_) λh=>?_
  ·exact .ret ⟨WR _,by omega,hs,.inr h⟩
  ·refine(Gy hp hn f (a+1) (by omega) λi j Dt hj=>?_).mono λm ⟨h1,h2,h3,h4⟩=>⟨by omega,by omega,h3,h4.imp (λz=>by omega) id⟩
   rcases(by omega:j<a\/j=a/\(i=j\/i<=a-1)) with e|⟨rfl,rfl|e⟩
   ·exact hs i j Dt e
   ·exact WR _
   ·have:=hs i (j-1) e (by omega)
    omega
theorem HB{p:Array Nat}(hp:Pm n p)(hn:0<n){m nr:Nat}(h1:1<=m)(hm:m<=nr)(RC:nr<=n)(hs:SY k p m):Rn n (IX k) (kas_tail3 m nr p) λr=>1<=r.1/\r.1<=nr/\Pm n r.2/\IW k r.2 r.1:=by
 unfold kas_tail3
 have GB:Pm n (kas_rev p 0 m):=hp.perm (mirror_perm _ _ _ _)
 refine .bind ((Gy GB hn (nr-m) m h1 λi j Dt hj=>?_).mono λx ⟨g1,g2,g3,_⟩=>.ret ⟨by omega,by omega,GB,g3⟩)
 rw[Gx (by rw[hp.size];omega),Gx (by rw[hp.size];omega),aan (by omega),aan (by omega)]
 exact hs _ _ (by omega) (by omega)
theorem zf(hn:0<n):∀f (p:Array Nat) a q,Pm n p->1<=a->a+f<=n->SY k p a->q+1<=a->(∀i,a-(q+1)<=i->i<a->kr k p i=kr k p (a-1))->
  Rn n (IX k) (kas_desc f p a q) λr=>Pm n r.1/\a<=r.2.1/\r.2.1<=a+f/\SY k r.1 r.2.1/\r.2.2+1<=r.2.1/\∀i,r.2.1-(r.2.2+1)<=i->i<r.2.1->kr k r.1 i=kr k r.1 (r.2.1-1)
 | 0,p,a,q,hp,h1,ha,hs,hq,he=>.ret ⟨hp,WR _,WR _,hs,hq,he⟩
 | f+1,p,a,q,hp,h1,ha,hs,hq,he=>by
  have step:∀p':Array Nat,(∀x,kr k p' x=kr k p x)->kr k p a<=kr k p (a-1)->SY k p' (a+1):=λp' hk hle i j Dt hj=>by
   rw[hk,hk]
   rcases(by omega:j<a\/j=a/\(i=j\/i<=a-1)) with e|⟨rfl,rfl|e⟩
   ·exact hs i j Dt e
   ·exact WR _
   ·have:=hs i (j-1) e (by omega)
    omega
  refine .ak hp hn (λh=>?_) λh=>?_
  ·by_cases hq0:q>0
   ·rw[aan hq0]
    refine(zf hn f (kas_rev p (a-(q+1)) a) (a+1) 0 (hp.perm (mirror_perm _ _ _ _)) (by omega) (by omega) (step _ (Dr (by rw[hp.size];omega) he) (by omega)) (by omega) λi g1 g2=>by congr 1;omega).mono λr ⟨g1,g2,g3,g4⟩=>⟨g1,by omega,by omega,g4⟩
   ·rw[aac hq0]
    exact(zf hn f p (a+1) 0 hp (by omega) (by omega) (step _ (λ_=>rfl) (by omega)) (by omega) λi g1 g2=>by congr 1;omega).mono λr ⟨g1,g2,g3,g4⟩=>⟨g1,by omega,by omega,g4⟩
  ·refine .ak hp hn (λh'=>?_) λh'=>?_
   ·exact .ret ⟨hp,WR _,Nat.le_add_right _ _,hs,hq,he⟩
   ·have e:kr k p a=kr k p (a-1):=by omega
    refine(zf hn f p (a+1) (q+1) hp (by omega) (by omega) (step _ (λ_=>rfl) (by omega)) (by omega) λi g1 g2=>?_).mono λr ⟨g1,g2,g3,g4⟩=>⟨g1,by omega,by omega,g4⟩
    rw[show a+1-1=a by omega]
    by_cases e2:i=a
    ·rw[e2]
    ·rw[e];exact he i (by omega) (by omega)
theorem yH{p:Array Nat}(hp:Pm n p)(hn:0<n){m nr:Nat}(hm:m+1<=nr)(RC:nr<=n)(hs:SY k p (m+1)):Rn n (IX k) (kas_descPart m nr p) λr=>1<=r.1/\r.1<=nr/\Pm n r.2/\IW k r.2 r.1:=by
 unfold kas_descPart
 refine .bind ((zf hn (nr-(m+1)) p (m+1) 0 hp (by omega) (by omega) hs (by omega) λi g1 g2=>by congr 1;omega).mono λr ⟨g1,g2,g3,g4,g5,g6⟩=>?_)
 by_cases hq:r.2.2>0
 ·rw[aan hq]
  refine HB (g1.perm (mirror_perm _ _ _ _)) hn (by omega) (by omega) RC λi j Dt hj=>?_
  have e:=Dr (k:=k) (p:=r.1) (i:=r.2.1-(r.2.2+1)) (j:=r.2.1) (by rw[g1.size];omega) g6
  rw[show mirror r.1 (r.2.1-(r.2.2+1)) r.2.1 ((r.2.1-(r.2.1-(r.2.2+1)))/2)=kas_rev r.1 (r.2.1-(r.2.2+1)) r.2.1 from rfl,e,e]
  exact g4 i j Dt hj
 ·rw[aac hq]
  exact HB g1 hn (by omega) (by omega) RC g4
theorem K8{p:Array Nat}(hp:Pm n p)(hn:0<n){nr:Nat}(h1:1<=nr)(RC:nr<=n):Rn n (IX k) (kas_count nr p) λr=>1<=r.1/\r.1<=nr/\Pm n r.2/\IW k r.2 r.1:=by
 unfold kas_count
 refine .bind ((Gy hp hn (nr-1) 1 (WR _) λi j Dt hj=>by rw[show i=j by omega];exact WR _).mono λm ⟨g1,g2,g3,g4⟩=>?_)
 by_cases e:m=nr
 ·rw[aan (by simpa using e)]
  exact .ret ⟨g1,by omega,hp,g3⟩
 ·rw[aac (by simpa using e)]
  have jT:kr k p m<kr k p (m-1):=g4.resolve_left (by omega)
  by_cases hg:m>1
  ·rw[aan hg]
   refine .ak hp hn (λh=>?_) λh=>?_
   ·exact .ret ⟨g1,by omega,hp,g3⟩
   ·have wu:∀x,0<=x->x<m->kr k p x=kr k p (m-1):=λx _ hx=>by
     have a1:=g3 0 x (by omega) hx
     have a2:=g3 x (m-1) (by omega) (by omega)
     omega
    have er:=Dr (k:=k) (p:=p) (i:=0) (j:=m) (by rw[hp.size];omega) wu
    refine yH (hp.perm (mirror_perm _ _ _ _)) hn (by omega) RC λi j Dt hj=>?_
    rw[show mirror p 0 m ((m-0)/2)=kas_rev p 0 m from rfl,er,er]
    by_cases e2:j=m
    ·by_cases e3:i=j
     ·rw[e3];exact WR _
     ·rw[e2,wu i (by omega) (by omega)];omega
    ·rw[wu i (by omega) (by omega),wu j (by omega) (by omega)];exact WR _
  ·rw[aac hg]
   have:m=1:=by omega
   subst this
   refine yH hp hn (by omega) RC λi j Dt hj=>?_
   by_cases e3:i=j
   ·rw[e3];exact WR _
   ·have hi:i=0:=by omega
    have hj:j=1:=by omega
    rw[hi,hj]
    exact acp jT
theorem AA{p:Array Nat}(hp:Pm n p)(hn:0<n){x:Nat}(hs:IW k p x):∀f l r,l<=r->r<=x->r-l<=f->(∀i,i<l->kr k p i<=kr k p x)->(∀i,r<=i->i<x->kr k p x<kr k p i)->Rn n (IX k) (kas_place p x f l r) λl=>l<=x/\(∀i,i<l->kr k p i<=kr k p x)/\∀i,l<=i->i<x->kr k p x<kr k p i
 | 0,l,r,Ny,YQ,hf,N7,V2=>by
  have:l=r:=by omega
  subst this
  exact .ret ⟨YQ,N7,V2⟩
 | f+1,l,r,Ny,YQ,hf,N7,V2=>by
  unfold kas_place
  by_cases hge:l>=r
  ·rw[aan hge]
   have:l=r:=by omega
   subst this
   exact .ret ⟨YQ,N7,V2⟩
  ·rw[aac hge]
   refine .ak hp hn (λh=>?_) λh=>?_
   ·refine AA hp hn hs f l ((l+r)/2) (by omega) (by omega) (by omega) N7 λi g1 g2=>?_
    have:=hs _ _ g1 g2
    omega
   ·refine AA hp hn hs f ((l+r)/2+1) r (by omega) (by omega) (by omega) (λi g1=>?_) V2
    have:=hs i ((l+r)/2) (by omega) (by omega)
    omega
theorem K9(hn:0<n):∀f (p:Array Nat) x,Pm n p->x+f=n->IW k p x->Rn n (IX k) (kas_bin f p x) λr=>Pm n r/\IW k r n
 | 0,p,x,hp,hx,hs=>.ret ⟨hp,by rw[<-hx];exact hs⟩
 | f+1,p,x,hp,hx,hs=>by
  refine .bind ((AA hp hn hs x 0 x (aaI _) (WR _) (by omega) (λi hi=>by omega) (λi h1 h2=>by omega)).mono λl ⟨g1,g2,g3⟩=>?_)
  refine K9 hn f (bubble p x (x-l)) (x+1) (hp.perm (bubble_perm _ _ _)) (by omega) λi j Dt hj=>?_
  have hsz:x<p.size:=by rw[hp.size];omega
  rw[K7 hsz (by omega),K7 hsz (by omega),show x-(x-l)=l by omega]
  repeat' split
  all_goals first
   | (exfalso;omega)
   | exact WR _
   | exact g2 _ (by omega)
   | exact acp (g3 _ (by omega) (by omega))
   | exact hs _ _ (by omega) (by omega)
theorem Nf(hn:0<n):Rn n (IX k) (kas_sort n) λr=>Pm n r/\IW k r n:=by
 unfold kas_sort
 have hp:Pm n (List.toArray (List.range n)):=by unfold Pm;rw[List.toList_toArray]
 refine .bind ((K8 hp hn hn (WR _)).mono λr ⟨g1,g2,g3,g4⟩=>?_)
 by_cases h:r.1<n
 ·rw[aan h]
  have e:max r.1 1=r.1:=by omega
  rw[e]
  exact K9 hn _ _ _ g3 (by omega) g4
 ·rw[aac h]
  have e:r.1=n:=by omega
  rw[e] at g4
  exact .ret ⟨g3,g4⟩
end
open PySem PySem.W PySem.Spec PyProof.Rows
abbrev T3:=Str×Int×Str
def sl(a b:Str):Bool:=decide (a.cps.toList<b.cps.toList)
noncomputable def Ca(x y:T3):Bool:=if x.1=y.1 then(if x.2.1=y.2.1 then(if x.2.2=y.2.2 then false else sl x.2.2 y.2.2) else decide (x.2.1<y.2.1)) else sl x.1 y.1
theorem K_(a:Str):sl a a=false:=strKind.irrefl a.cps.toList
theorem Ng{a b:Str}(h:a.cps.toList=b.cps.toList):a=b:=by
 cases a;cases b
 exact aaQ Str.mk (Array.toList_inj.mp h)
theorem La{a b:Str}(h1:sl a b=false)(h2:sl b a=false):a=b:=Ng (strKind.total _ _ h1 h2)
theorem N0{a b c:Str}(h1:sl a b=true)(h2:sl b c=true):sl a c=true:=strKind.trans _ _ _ h1 h2
theorem Nh(x:T3):Ca x x=false:=by unfold Ca;rw[aan rfl,aan rfl,aan rfl]
theorem HC{x y:T3}(h1:Ca x y=false)(h2:Ca y x=false):x=y:=by
 unfold Ca at h1 h2
 obtain⟨a,b,c⟩:=x
 obtain⟨a',b',c'⟩:=y
 dsimp only at h1 h2
 by_cases e1:a=a'
 ·subst e1
  rw[aan rfl] at h1 h2
  by_cases e2:b=b'
  ·subst e2
   rw[aan rfl] at h1 h2
   by_cases e3:c=c'
   ·rw[e3]
   ·rw[aac e3] at h1
    rw[aac (abD e3)] at h2
    exact absurd (La h1 h2) e3
  ·rw[aac e2] at h1
   rw[aac (abD e2)] at h2
   have h1:=of_decide_eq_false h1
   have h2:=of_decide_eq_false h2
   omega
 ·rw[aac e1] at h1
  rw[aac (abD e1)] at h2
  exact absurd (La h1 h2) e1
theorem P_{x y z:T3}(h1:Ca x y=true)(h2:Ca y z=true):Ca x z=true:=by
 unfold Ca at h1 h2 ⊢
 obtain⟨a,b,c⟩:=x
 obtain⟨a',b',c'⟩:=y
 obtain⟨a2,b2,c2⟩:=z
 dsimp only at h1 h2 ⊢
 by_cases e1:a=a'
 ·subst e1
  rw[aan rfl] at h1
  by_cases f1:a=a2
  ·subst f1
   rw[aan rfl] at h2 ⊢
   by_cases e2:b=b'
   ·subst e2
    rw[aan rfl] at h1
    by_cases f2:b=b2
    ·subst f2
     rw[aan rfl] at h2 ⊢
     by_cases e3:c=c'
     ·rw[aan e3] at h1;cases h1
     ·rw[aac e3] at h1
      by_cases f3:c'=c2
      ·rw[aan f3] at h2;cases h2
      ·rw[aac f3] at h2
       have:=N0 h1 h2
       by_cases g:c=c2
       ·subst g;rw[K_] at this;cases this
       ·rw[aac g];exact this
    ·rw[aac f2] at h2 ⊢;exact h2
   ·rw[aac e2] at h1
    have h1:=aah h1
    by_cases f2:b'=b2
    ·subst f2
     rw[aac e2];exact WV h1
    ·rw[aac f2] at h2
     have h2:=aah h2
     rw[aac (by omega)]
     exact WV (by omega)
  ·rw[aac f1] at h2 ⊢;exact h2
 ·rw[aac e1] at h1
  by_cases f1:a'=a2
  ·subst f1
   rw[aac e1];exact h1
  ·rw[aac f1] at h2
   have:=N0 h1 h2
   by_cases g:a=a2
   ·subst g;rw[K_] at this;cases this
   ·rw[aac g];exact this
noncomputable def IY(ts:List T3)(i:Nat):Nat:=((ts[i]?).map λx=>(ts.filter λy=>Ca y x).length).getD 0
theorem pG{Z:Type}{p q:Z->Bool}:∀{l:List Z},(∀x∈l,p x=true->q x=true)->(l.filter p).length<=(l.filter q).length
 | [],_=>WR _
 | x::r,h=>by
  have ih:=pG (l:=r) λy hy=>h y (aaa _ hy)
  by_cases hp:p x=true
  ·rw[ZT hp,ZT (h x aap hp),ZY,ZY];omega
  ·rw[aab hp]
   by_cases hq:q x=true
   ·rw[ZT hq,ZY];omega
   ·rw[aab hq];exact ih
theorem Bl{Z:Type}{p q:Z->Bool}{l:List Z}{x:Z}(hx:x∈l)(hp:p x=false)(hq:q x=true)(h:∀x∈l,p x=true->q x=true):(l.filter p).length<(l.filter q).length:=by
 obtain⟨a,b,rfl⟩:=List.append_of_mem hx
 have h1:=pG (l:=a) λy hy=>h y (aad _ hy)
 have h2:=pG (l:=b) λy hy=>h y (aay _ (aaa _ hy))
 rw[aaH,aaH,XF,XF,aab (by rw[hp];decide),ZT hq,ZY]
 omega
theorem Lb{ts:List T3}{i j:Nat}{x y:T3}(hx:ts[i]?=some x)(hy:ts[j]?=some y):decide (IY ts i<IY ts j)=Ca x y:=by
 have key:∀{i j:Nat} {x y:T3},ts[i]?=some x->ts[j]?=some y->Ca x y=true->IY ts i<IY ts j:=λ{i j x y} hx hy h=>by
  unfold IY
  rw[hx,hy]
  exact Bl (WW hx) (Nh x) h λz _ hz=>P_ hz h
 cases h:Ca x y with
 | true=>exact WV (key hx hy h)
 | false=>
  refine ZW λz=>?_
  cases h':Ca y x with
  | true=>have:=key hy hx h';omega
  | false=>
   have e:=HC h h'
   subst e
   unfold IY at z
   rw[hx,hy] at z
   exact abi _ z
def xw(h:Heap)(v:Value)(x:T3):Prop:=∃a o t1 t2 t3 m,v=.ref a/\h.get? a=some o/\o.cls=.type "tuple"/\o.data=.seq #[.str x.1 t1,.int x.2.1 t2,.str x.2.2 t3] m
section
variable{prog:Program}{w:World}{A:Around}{E:Qqq}{s:Shared}
theorem Qa{u v:Value}{x y:T3}{Q:Bool->Shared->Prop}(hu:xw s.heap u x)(hv:xw s.heap v y)(hq:Q (Ca x y) s):wpAny (model prog w) A (keyLt' (tuples' true) u v) Q (λ_ _=>False) s:=by
 obtain⟨a,o,t1,t2,t3,m,rfl,ho,hc,hd⟩:=hu
 obtain⟨a',o',t1',t2',t3',m',rfl,pI,Bo,Ta⟩:=hv
 refine kat_lt ho hd pI Ta ?_
 obtain⟨x1,x2,x3⟩:=x
 obtain⟨y1,y2,y3⟩:=y
 unfold Ca at hq
 dsimp only at hq
 show KatLex prog w A true (decide (3<3)) Q [(Value.str x1 t1,Value.str y1 t1'),(Value.int x2 t2,Value.int y2 t2'),(Value.str x3 t3,Value.str y3 t3')] 0 s
 refine kat_cons (wpAny_eqBool_str ?_)
 by_cases e1:x1=y1
 ·rw[aan e1] at hq
  rw[WV e1]
  refine kat_yes (kat_cons (wpAny_eqBool_int ?_))
  by_cases e2:x2=y2
  ·rw[aan e2] at hq
   rw[show(x2 ==y2)=true by simpa using e2]
   refine kat_yes (kat_cons (wpAny_eqBool_str ?_))
   by_cases e3:x3=y3
   ·rw[aan e3] at hq
    rw[WV e3]
    exact kat_yes (kat_nil hq)
   ·rw[aac e3] at hq
    rw[ZW e3]
    exact kat_no (kat_one _ _ (lt_str hq))
  ·rw[aac e2] at hq
   rw[show(x2 ==y2)=false by simpa using e2]
   exact kat_no (kat_one _ _ (lt_int hq))
 ·rw[aac e1] at hq
  rw[ZW e1]
  exact kat_no (oneLt_str hq)
end
section
variable{prog:Program}{w:World}{A:Around}{E:Qqq}{s:Shared}
noncomputable abbrev Py(h:Heap)(a:Addr)(vs:List Value):Heap:=((h.update a (Obj.mapSeq λ_=>#[])).push (seqObj "tuple" vs.toArray 0)).push (seqObj "list" #[] 0)
noncomputable abbrev Rf(s:Shared)(a:Addr)(vs:List Value):Shared:={s with heap:=Py s.heap a vs}
noncomputable abbrev Vf(h:Heap)(vs:List Value):Heap:=((h.push (seqObj "list" #[] 0)).update h.objs.size (Obj.mapSeq (·++vs.toArray))).push (seqObj "list" vs.toArray 0)
theorem Bm{a:Addr}{vs:List Value}{ts:List T3}{n:Nat}{P:PySem.Fin->Shared->Prop}(ho:s.heap.get? a=some (seqObj "list" vs.toArray n))
  (ht:Paired (xw s.heap) vs ts) (hna:∀v∈vs,v≠.ref a) (V3:vs.length<64)
  (h:∀p:Array Nat,Pm vs.length p->IW (IY ts) p vs.length->P (.done (.ret .none)) {s with heap:=sortedHeap s.heap a vs (List.toArray (p.toList.map λi=>vs.getD i Value.none))}) :
  wpAny (model prog w) A (Builtin.«list.sort» ⟨[.ref a],[]⟩) P E s:=by
 rw[list_sort_plain]
 have ha:a<s.heap.objs.size:=aas ho
 have hlen:=aak ht
 refine TN (listItems_at ho rfl ?_)
 refine TN (listUpdate_at ho rfl ?_)
 obtain⟨e1,QX⟩:∃e1,(s.heap.update a (Obj.mapSeq λ_=>#[])).get? a=some (seqObj "list" #[] e1):=⟨_,get?_update_seq ho (λ_=>#[])⟩
 refine TN (seqEpoch_at QX rfl ?_)
 refine TN (wpAny_newTuple ?_)
 refine TN (wpAny_newList ?_)
 refine abx ?_
 have V4:(Py s.heap a vs).get? a=some (seqObj "list" #[] e1):=by
  rw[abW _ _ _ (by rw[size_push',Heap.size_update];exact aaJ (Nat.lt_succ_of_lt ha)),abW _ _ _ (by rw[Heap.size_update];exact aaJ ha)]
  exact QX
 have keep:∀b o,b≠a->s.heap.get? b=some o->(Py s.heap a vs).get? b=some o:=λb o hb e=>by
  have jT:=aas e
  rw[abW _ _ _ (by rw[size_push',Heap.size_update];exact aaJ (Nat.lt_succ_of_lt jT)),abW _ _ _ (by rw[Heap.size_update];exact aaJ jT),Heap.get?_update_ne _ _ _ _ hb]
  exact e
 have GL:Paired (xw (Py s.heap a vs)) vs ts:=by
  have key:∀{us:List Value} {ys:List T3},(∀v∈us,v≠.ref a)->Paired (xw s.heap) us ys->Paired (xw (Py s.heap a vs)) us ys:=by
   intro us ys hu p
   induction p with
   | nil=>exact .nil
   | cons f _ ih=>
    refine .cons ?_ (ih λv hv=>hu v (aaa _ hv))
    obtain⟨b,o,t1,t2,t3,m,rfl,hb,r⟩:=f
    exact⟨b,o,t1,t2,t3,m,rfl,keep b o (λe=>hu _ aap (by rw[e])) hb,r⟩
  exact key hna ht
 show wpAny (model prog w) A _ P E (Rf s a vs)
 dsimp only
 have hsz:vs.toArray.size=vs.length:=by simp
 by_cases h2:vs.toArray.size<2
 ·rw[aan h2,aan h2]
  refine TN (aaf ?_)
  rw[StateT.run_pure]
  refine TN (aaf ?_)
  dsimp only
  refine TN (seqEpoch_at V4 rfl ?_)
  refine TN (listUpdate_at V4 rfl ?_ (hsz2:=by rw[Array.size_map];show(pairsOf vs).size<=_;rw[pairsOf_size,acm];omega))
  simp only [ace,aaR,abQ]
  have fin:=h (List.range vs.length).toArray (by unfold Pm;rw[List.toList_toArray]) λi j Dt hj=>by
   have:i=j:=by omega
   rw[this];exact WR _
  have e:List.toArray ((List.range vs.length).toArray.toList.map λi=>vs.getD i Value.none)=(arrOf (SortSt.mk' general' (vs.toArray.zip vs.toArray) #[] 7 none)).map (·.2):=by
   have e2:((List.range vs.length).map λi=>vs.getD i Value.none)=vs:=by
    match vs,hsz,h2 with
    | [],_,_=>rfl
    | [_],_,_=>rfl
    | _::_::_,_,h2=>simp at h2;omega
   rw[List.toList_toArray,e2]
   show vs.toArray=(vs.toArray.zip vs.toArray).map (·.2)
   apply Array.toList_inj.mp
   rw[Array.toList_map,Array.toList_zip]
   exact(List.map_snd_zip (WR _)).symm
  rw[e] at fin
  exact aaf fin
 ·rw[aac h2,aac h2]
  have VE:2<=vs.length:=by omega
  obtain⟨fs,wD,QQ,hft⟩:∃fs,KatTups (Py s.heap a vs) vs fs/\fs.length=vs.length/\∀v∈fs,∃x t,v=Value.str x t:=by
   have key:∀{hh:Heap} {us:List Value} {ys:List T3},Paired (xw hh) us ys->∃fs,KatTups hh us fs/\fs.length=us.length/\∀v∈fs,∃x t,v=Value.str x t:=by
    intro hh us ys p
    induction p with
    | nil=>exact⟨[],.nil,rfl,λv hv=>by cases hv⟩
    | @cons v x _ _ f _ ih=>
     obtain⟨fs,g1,g2,g3⟩:=ih
     obtain⟨b,o,t1,t2,t3,m,rfl,hb,hc,hd⟩:=f
     refine⟨.str x.1 t1::fs,.cons hb hc hd (by simp) g1,by rw[ZY,ZY,g2],λv hv=>?_⟩
     rcases XH.mp hv with e|hv
     ·exact⟨_,_,e⟩
     ·exact g3 v hv
   exact key GL
  refine TN (kat_kind (s:=(Rf s a vs)) (T:=.type "str") wD (by omega) (λv hv=>?_) (by decide) ?_)
  ·obtain⟨x,t,rfl⟩:=hft v hv
   exact λA Q E s _ q=>aaf q
  ·have YR:∀i j C,i<vs.length->j<vs.length->C (decide (IY ts i<IY ts j)) (Rf s a vs)->kas_ask prog w A (tuples' true) vs i j C (Rf s a vs):=λi j C hi hj hC=>by
    have gi:vs[i]?=some vs[i]:=TH hi
    have gj:vs[j]?=some vs[j]:=TH hj
    have hg:∀{us:List Value} {ys:List T3} {hh:Heap},Paired (xw hh) us ys->∀{i:Nat} {v:Value},us[i]?=some v->∃y,ys[i]?=some y/\xw hh v y:=by
     intro us ys hh p
     induction p with
     | nil=>intro i v h;simp at h
     | cons f t ih=>
      intro i v h
      cases i with
      | zero=>rw[List.getElem?_cons_zero] at h;cases h;exact⟨_,rfl,f⟩
      | succ i=>rw[List.getElem?_cons_succ] at h;exact ih h
    obtain⟨x,hx,tx⟩:=hg GL gi
    obtain⟨y,hy,ty⟩:=hg GL gj
    rw[Lb hx hy] at hC
    unfold kas_ask
    rw[show vs.getD i Value.none=vs[i] by simp[List.getD,gi],show vs.getD j Value.none=vs[j] by simp[List.getD,gj]]
    exact Qa tx ty hC
   refine TN (abo (kat_run (ks:=vs) (vs:=vs) (Q:=λyJ s'=>∃p:Array Nat,Pm vs.length p/\IW (IY ts) p vs.length/\arrOf yJ=p.map (kas_item (vs.toArray.zip vs.toArray))/\failedOf yJ=none/\s'=(Rf s a vs))
    (G:=λp s'=>(Pm vs.length p/\IW (IY ts) p vs.length)/\s'=(Rf s a vs))
    rfl VE V3 (λp yJ s' a1 a2 a3 a4=>⟨p,a4.1.1,a4.1.2,a2,a3,a4.2⟩) (Rn.wp YR (Nf (k:=IY ts) (by omega)) λp hp=>⟨hp,rfl⟩)) ?_ λ_ _ e=>e)
   rintro⟨⟨⟩,yJ⟩ s' ⟨p,hp,hs,har,hf,rfl⟩
   dsimp only
   have YS:=kat_snds (ks:=vs) (vs:=vs) rfl har
   rw[YS]
   have hsz2:(List.toArray (p.toList.map λi=>vs.getD i Value.none)).size=vs.length:=by rw[aag,Ob,aaL,hp.size]
   refine TN (seqEpoch_at V4 rfl ?_)
   refine TN (listUpdate_at V4 rfl ?_ (hsz2:=by rw[hsz2,acm];omega))
   rw[hf]
   simp only [ace,aaR,abQ]
   exact aaf (h p hp hs)
theorem Gz{l:Addr}{vs:List Value}{ts:List T3}{Q:Qqq}(hl:s.heap.IsList l vs.toArray)(ht:Paired (xw s.heap) vs ts)(V3:vs.length<64)
  (h:∀p:Array Nat,Pm vs.length p->IW (IY ts) p vs.length->Q (.ref (s.heap.objs.size+1)) {s with heap:=sortedAll s.heap vs (List.toArray (p.toList.map λi=>vs.getD i Value.none))}) :
  wpAny (model prog w) A (call (.builtin "sorted") [.ref l]) Q E s:=by
 refine Calls.call_function_entry kind_sorted plain_sorted entry_sorted (args_sorted1 _) ?_
 unfold Builtin.«sorted»
 refine TN (m:=checkCount "sorted" 1 1 _) (aaf ?_)
 refine TN (collect_list hl ?_ (by rw[acm];omega))
 refine TN (wpAny_newList ?_ (by rw[acm];omega))
 have hsz:((s.heap.push (seqObj "list" #[] 0)).update s.heap.objs.size (Obj.mapSeq (·++vs.toArray))).objs.size=s.heap.objs.size+1:=by
  rw[Heap.size_update,size_push']
 have Vi:(Vf s.heap vs).get? (s.heap.objs.size+1)=some (seqObj "list" vs.toArray 0):=by
  rw[<-hsz];exact aax _ rfl
 have keep:∀b o,s.heap.get? b=some o->(Vf s.heap vs).get? b=some o:=λb o q=>by
  have jT:b<s.heap.objs.size:=aas q
  rw[abW _ _ _ (by rw[hsz];exact aaJ (Nat.lt_succ_of_lt jT)),Heap.get?_update_ne _ _ _ _ (aaJ jT),abW _ _ _ (aaJ jT)]
  exact q
 have key:∀{us:List Value} {ys:List T3},Paired (xw s.heap) us ys->Paired (xw (Vf s.heap vs)) us ys/\∀v∈us,v≠.ref (s.heap.objs.size+1):=by
  intro us ys p
  induction p with
  | nil=>exact⟨.nil,λv hv=>by cases hv⟩
  | cons f _ ih=>
   obtain⟨b,o,t1,t2,t3,m,rfl,hb,r⟩:=f
   refine⟨.cons ⟨b,o,t1,t2,t3,m,rfl,keep b o hb,r⟩ ih.1,λv hv=>?_⟩
   rcases XH.mp hv with e|hv
   ·intro e'
    rw[e] at e'
    cases e'
    exact absurd (aas hb) (Nat.not_lt.mpr (Nat.le_succ _))
   ·exact ih.2 v hv
 obtain⟨k1,k2⟩:=key ht
 show wpAny _ _ _ _ _ {s with heap:=Vf s.heap vs}
 rw[hsz]
 refine TN (abx (abM slot_list_sort ⟨_,Vi,rfl⟩ entry_list_sort (Bm Vi k1 k2 V3 λp a1 a2=>⟨_,rfl,?_⟩) (args_list_sort _)))
 exact aaf ⟨_,rfl,h p a1 a2⟩
end
def S3(H:Hp)(v:V)(x:T3):Prop:=∃a,v=.ref a/\H a=some (.tup [.str x.1,.int x.2.1,.str x.2.2])
section
variable{X:Cx}
theorem HD{c_:Qqz}{Z:St}{H:Hp}{s:Shared}(I:Inv X c_ Z H s):∀{ys:List V} {ts:List T3} {us:List Value},Paired (S3 H) ys ts->Vals ys us->Paired (xw s.heap) us ts
 | _,_,_,.nil,.nil=>.nil
 | _,_,_,.cons f p,.cons r q=>by
  refine .cons ?_ (HD I p q)
  obtain⟨a,rfl,h⟩:=f
  cases r
  obtain⟨gU,rv,pl,_⟩:=I.tuple (pf.of h)
  obtain⟨o,ho,hc,n,hd⟩:=pl
  cases rv with
  | cons r1 rv=>
   cases rv with
   | cons r2 rv=>
    cases rv with
    | cons r3 rv=>
     cases rv
     obtain⟨t1,rfl⟩:=r1
     obtain⟨t2,rfl⟩:=r2
     obtain⟨t3,rfl⟩:=r3
     exact⟨a,o,t1,t2,t3,n,rfl,ho,hc,hd⟩
theorem IZ{Z:Type}(d:Z){l:List Z}{p:Array Nat}(hp:Pm l.length p):(p.toList.map λi=>l.getD i d).Perm l:=by
 have e:(List.range l.length).map (λi=>l.getD i d)=l:=by
  refine List.ext_getElem? λk=>?_
  rw[aam]
  by_cases h:k<l.length
  ·rw[abZ h,TH h]
   simp[List.getD,TH h]
  ·rw[List.getElem?_eq_none (by rw[abH];omega),List.getElem?_eq_none (by omega)]
   rfl
 have:=List.Perm.map (λi=>l.getD i d) hp
 rwa [e] at this
theorem sV{Z Y:Type}{F:Z->Y->Prop}(da:Z)(db:Y){xs:List Z}{ys:List Y}(p:Paired F xs ys):∀(l:List Nat),(∀i∈l,i<xs.length)->Paired F (l.map λi=>xs.getD i da) (l.map λi=>ys.getD i db)
 | [],_=>.nil
 | i::r,h=>by
  refine .cons ?_ (sV da db p r λj hj=>h j (aaa _ hj))
  have hi:=h i aap
  have key:∀{xs:List Z} {ys:List Y},Paired F xs ys->∀i,i<xs.length->F (xs.getD i da) (ys.getD i db):=by
   intro xs ys p
   induction p with
   | nil=>intro i hi;exact absurd hi (Nat.not_lt_zero _)
   | cons f t ih=>
    intro i hi
    cases i with
    | zero=>exact f
    | succ i=>exact ih i (Nat.lt_of_succ_lt_succ hi)
  exact key p i hi
theorem AB:ve X (.builtin "sorted") (λxs H Q=>∃p ys ts,xs=[.ref p]/\gO X.K H p ys/\Paired (S3 H) ys ts/\ys.length<64/\∀l zs HM,H l=none->Paired (S3 H) zs HM->HM.Perm ts->HM.Pairwise (λx y=>Ca y x=false)->zs.length=ys.length->Q (.ref l) (upd H l (.lst zs))):=by
 intro c_ s Z H xs us Q I r h
 obtain⟨a,ys,ts,rfl,hq,hp,V3,q⟩:=h
 obtain⟨u,rfl,ru⟩:=vals1 r
 cases (show u=Value.ref a from ru)
 obtain⟨gU,rv,pp,hz⟩:=I.list hq
 have hlen:=rv.length
 have jT:=aak hp
 refine Gz (vs:=gU) pp.isList (HD I hp rv) (by omega) λp RD hs=>?_
 have wy:∀i∈p.toList,i<gU.length:=λi hi=>abf.mp (List.Perm.subset RD hi)
 have hsz:(p.toList.map λi=>ys.getD i V.jg).length=ys.length:=by rw[Ob,aaL,RD.size,hlen]
 obtain⟨c,hc⟩:=sortedAll_at s.heap gU (List.toArray (p.toList.map λi=>gU.getD i Value.none))
 have pm3:Pm ts.length p:=by rw[<-jT,hlen];exact RD
 refine⟨.ref (s.heap.objs.size+1),upd H (s.heap.objs.size+1) (.lst (p.toList.map λi=>ys.getD i V.jg)),I.laid (t':=s.toks) (λb o e=>sortedAll_old e) (Nat.le_succ _) (show i7 X.prog X.w _ _ _ (.lst (p.toList.map λi=>ys.getD i V.jg)) from ⟨by rw[hsz];exact hz,p.toList.map (λi=>gU.getD i Value.none),c,sV V.jg Value.none rv _ (λi hi=>by rw[hlen];exact wy i hi),hc⟩),rfl,?_⟩
 refine q _ _ (p.toList.map λi=>ts.getD i (Str.empty,0,Str.empty)) (I.iM.fresh (Nat.le_succ _)) (sV _ _ hp _ λi hi=>by rw[hlen];exact wy i hi) (IZ _ pm3) ?_ hsz
 rw[abI,abh]
 intro i j hi hj Dt
 rw[aaL,RD.size] at hi hj
 have g:∀k (hk:k<p.toList.length),p.getD k 0=p.toList[k]:=λk hk=>by
  have YT:k<p.size:=by rwa [aaL] at hk
  simp[Array.getD,YT]
 have hle:=hs i j (acp Dt) hj
 unfold kr at hle
 rw[g i (by rw[aaL,RD.size];exact hi),g j (by rw[aaL,RD.size];exact hj)] at hle
 have gt:∀k,k∈p.toList->ts[k]?=some (ts.getD k (Str.empty,0,Str.empty)):=λk hk=>by
  have:=wy k hk
  have T4:k<ts.length:=by omega
  simp[List.getD,TH T4]
 rw[<-Lb (gt _ (acj _)) (gt _ (acj _))]
 exact ZW (by omega)
end
theorem I_{x y:List T3}(hp:x.Perm y)(hx:x.Pairwise λa b=>Ca b a=false)(hy:y.Pairwise λa b=>Ca b a=false):x=y:=
 List.Perm.eq_of_pairwise (le:=λa b=>Ca b a=false) (λa b _ _ h1 h2=>HC h2 h1) hx hy hp
end L2
namespace PM
open PySem (Str)
open Dk
theorem AD:∀(ps:List Pt),(∀p∈ps,p.other=none)->n4 ps []=ps
 | [],_=>rfl
 | p::r,h=>by
  unfold n4
  rw[aac (by simp),h p aap]
  show p::n4 r []=_
  rw[AD r λq hq=>h q (aaa _ hq)]
theorem Ja{ps:List Pt}(h:∀p∈ps,p.other=none):live ps=ps:=by
 unfold live
 rw[AD _ λp hp=>h p (List.mem_reverse.mp hp),List.reverse_reverse]
def tr(l:Ln):Str×Nat×Str:=(l.nm.1,l.nm.2,l.tx)
theorem Lc{a b:Ln}(h:tr a=tr b):a.nm=b.nm:=by
 have h1:=aaQ Prod.fst h
 have h2:=aaQ (λz=>z.2.1) h
 exact Prod.ext h1 h2
section
variable{D D':Dk}{s o t f:Str}{l:Ln}
theorem Ds(I:Inv D)(nb:∀p∈D.made,p.other=none):l∈D.row t f↔(∃p∈D.made,p.nm∈D.held t/\p.file=some f/\l∈p.iE)/\∀q∈D.made,q.nm∈D.held t->l.nm∉q.jx:=by
 rw[(I.rQ t f).mem_iff]
 unfold mF
 rw[Ja λp hp=>nb p (Inv.i3.mp hp).1,aal,abc,jI]
 refine and_congr ⟨?_,?_⟩ ⟨?_,?_⟩
 ·rintro⟨p,hp,h⟩
  exact⟨p,(Inv.i3.mp hp).1,(Inv.i3.mp hp).2,h⟩
 ·rintro⟨p,hp,h1,h⟩
  exact⟨p,Inv.i3.mpr ⟨hp,h1⟩,h⟩
 ·exact λh q hq hh z=>h (aa0.mpr ⟨q,Inv.i3.mpr ⟨hq,hh⟩,z⟩)
 ·intro h z
  obtain⟨q,hq,z⟩:=aa0.mp z
  exact h q (Inv.i3.mp hq).1 (Inv.i3.mp hq).2 z
theorem Jb(I:Inv D)(ht:t∈D.stores){q:Pt}(hq:q∈D.made)(hh:q.nm∈D.held t){n:Nm}(hn:n∈q.jx):n.1∈D.held t:=by
 refine(I.kA t ht _ hh).2 _ ((I.need q hq _).mpr ⟨n.1,?_,.inl rfl⟩)
 unfold ir named
 exact aad _ (aaA.mpr ⟨n,aal.mpr ⟨aad _ hn,by simpa using I.Ks q hq n hn⟩,rfl⟩)
theorem Ni(I:Inv D){p p':Pt}{l l':Ln}(hp:p∈D.made)(GB:p'∈D.made)(h:l∈p.iE)(h':l'∈p'.iE)(e:l.nm=l'.nm):l=l':=by
 have:=ME I.nd hp GB (by rw[<-mX (I.DU p hp) (YO h),<-mX (I.DU p' GB) (YO h'),e])
 subst this
 have nd:(p.iE.map (·.nm)).Nodup:=by
  rw[I.DU p hp]
  exact abI.mpr (List.nodup_range.imp λz e=>z (aaQ Prod.snd e))
 obtain⟨i,hi,ei⟩:=List.mem_iff_getElem.mp h
 obtain⟨j,hj,ej⟩:=List.mem_iff_getElem.mp h'
 have:=(List.getElem_inj (i:=i) (j:=j) (h₀:=by rw[Ob];exact hi) (h₁:=by rw[Ob];exact hj) nd).mp (by rw[List.getElem_map,List.getElem_map,ei,ej];exact e)
 subst this
 rw[<-ei,<-ej]
structure Mg(D D':Dk)(s o:Str):Prop where
 made:D'.made=D.made
 mem:∀y,y∈D'.held s↔y∈D.held s\/y∈D.held o
theorem Ld(I:Inv D){t':Str}{l l':Ln}(h:l∈D.row t f)(h':l'∈D.row t' f)(e:l.nm=l'.nm):l=l':=by
 obtain⟨p,hp,_,h⟩:=I.qA h
 obtain⟨p',GB,_,h'⟩:=I.qA h'
 exact Ni I (Inv.i3.mp hp).1 (Inv.i3.mp GB).1 h h' e
theorem Mg.row(G:Mg D D' s o)(I:Inv D)(I':Inv D')(nb:∀p∈D.made,p.other=none)(hs:s∈D.stores)(ho:o∈D.stores):l∈D'.row s f↔(l∈D.row s f/\(l.nm.1∉D.held o\/l∈D.row o f))\/(l∈D.row o f/\(l.nm.1∉D.held s\/l∈D.row s f)):=by
 rw[Ds I' (by rw[G.made];exact nb),Ds I nb,Ds I nb]
 simp only [G.made,G.mem]
 constructor
 ·rintro⟨⟨p,hp,hh,hf,hl⟩,hc⟩
  have e:=mX (I.DU p hp) (YO hl)
  have mk:∀t,(∀q,q∈D.held t->q∈D.held s\/q∈D.held o)->p.nm∈D.held t->(∃p∈D.made,p.nm∈D.held t/\p.file=some f/\l∈p.iE)/\∀q∈D.made,q.nm∈D.held t->l.nm∉q.jx:=λt ht h=>⟨⟨p,hp,h,hf,hl⟩,λq hq Ll=>hc q hq (ht _ Ll)⟩
  rw[e]
  rcases hh with hh|hh
  ·refine .inl ⟨mk s (λ_=>.inl) hh,?_⟩
   by_cases c:p.nm∈D.held o
   ·exact .inr (mk o (λ_=>.inr) c)
   ·exact .inl c
  ·refine .inr ⟨mk o (λ_=>.inr) hh,?_⟩
   by_cases c:p.nm∈D.held s
   ·exact .inr (mk s (λ_=>.inl) c)
   ·exact .inl c
 ·have key:∀{t t':Str},t'∈D.stores->((∃p∈D.made,p.nm∈D.held t/\p.file=some f/\l∈p.iE)/\∀q∈D.made,q.nm∈D.held t->l.nm∉q.jx)->(l.nm.1∉D.held t'\/((∃p∈D.made,p.nm∈D.held t'/\p.file=some f/\l∈p.iE)/\∀q∈D.made,q.nm∈D.held t'->l.nm∉q.jx))->∀q∈D.made,q.nm∈D.held t'->l.nm∉q.jx:=λht h h' q hq hh hc=>h'.elim (λz=>z (Jb I ht hq hh hc)) λz=>z.2 q hq hh hc
  rintro(⟨h,h'⟩|⟨h,h'⟩)
  ·obtain⟨p,hp,hh,hr⟩:=h.1
   exact⟨⟨p,hp,.inl hh,hr⟩,λq hq Ll=>Ll.elim (h.2 q hq) (key ho h h' q hq)⟩
  ·obtain⟨p,hp,hh,hr⟩:=h.1
   exact⟨⟨p,hp,.inr hh,hr⟩,λq hq Ll=>Ll.elim (key hs h h' q hq) (h.2 q hq)⟩
open Classical in
theorem Fh{lt:Nm->Nm->Prop}{row:List Ln}{i j:Nat}:(i,j)∈ki lt row↔i<j/\j<row.length/\¬ltAt lt row i j:=by
 unfold ki
 rw[aa0]
 constructor
 ·rintro⟨k,hk,h⟩
  obtain⟨q,hq,e⟩:=aaA.mp h
  cases e
  obtain⟨h1,h2⟩:=aal.mp hq
  obtain⟨m,hm,e⟩:=List.mem_range'.mp h1
  have:=abf.mp hk
  exact⟨by omega,by omega,aah h2⟩
 ·rintro⟨h1,h2,h3⟩
  exact⟨i,abf.mpr (by omega),aaA.mpr ⟨j,aal.mpr ⟨List.mem_range'.mpr ⟨j-(i+1),by omega,by omega⟩,WV h3⟩,rfl⟩⟩
theorem Mg.order(G:Mg D D' s o)(I:Inv D)(I':Inv D')(ht:t=s\/t=o){i j a b:Nat}{l m l' m':Ln}(Dt:i<j)(hi:(D.row t f)[i]?=some l)(hj:(D.row t f)[j]?=some m)(hq:(i,j)∉D.oz t f)(ha:(D'.row s f)[a]?=some l')(hb:(D'.row s f)[b]?=some m')(el:tr l'=tr l)(em:tr m'=tr m):a<=b/\(a,b)∉D'.oz s f:=by
 have jT:Ah (gR (D.pj t) f) l.nm m.nm:=Classical.byContradiction λz=>hq (Fh.mpr ⟨Dt,(List.getElem?_eq_some_iff.mp hj).1,λ⟨x,y,h1,h2,h3⟩=>by
  have h1:(D.row t f)[i]?=some x:=h1
  have h2:(D.row t f)[j]?=some y:=h2
  rw[hi] at h1
  rw[hj] at h2
  cases h1
  cases h2
  exact z h3⟩)
 have sub:∀p∈D.pj t,p∈D'.pj s:=λp hp=>by
  obtain⟨h1,h2⟩:=Inv.i3.mp hp
  refine Inv.i3.mpr ⟨by rw[G.made];exact h1,(G.mem _).mpr ?_⟩
  rcases ht with rfl|rfl
  ·exact .inl h2
  ·exact .inr h2
 have jT:Ah (gR (D'.pj s) f) l'.nm m'.nm:=by
  rw[Lc el,Lc em]
  exact jT.mono λx hx=>by
   obtain⟨p,hp,h⟩:=jI.mp hx
   exact jI.mpr ⟨p,sub p hp,h⟩
 obtain⟨rk,r⟩:=I'.Ph s f
 have so:(D'.row s f).Pairwise λa b=>¬Ah (gR (D'.pj s) f) b.nm a.nm:=CH (rk:=rk) (λm n z=>r.ah z) (I'.Gb s f)
 obtain⟨ga,ea⟩:=List.getElem?_eq_some_iff.mp ha
 obtain⟨gb,eb⟩:=List.getElem?_eq_some_iff.mp hb
 refine⟨Nat.le_of_not_lt λh=>?_,λz=>(Fh.mp z).2.2 ⟨l',m',ha,hb,jT⟩⟩
 have:=abh.mp so b a gb ga h
 rw[ea,eb] at this
 exact this jT
end
open Classical in
noncomputable def o9(r':List Ln)(h':List Str)(acc:List Ln)(l:Ln):List Ln:=if(l.nm.1∉h'\/l∈r')/\l∉acc then acc++[l] else acc
noncomputable def jW(r r':List Ln)(h':List Str)(acc:List Ln):List Ln:=r.foldl (o9 r' h') acc
noncomputable def Le(r r':List Ln)(h h':List Str):List Ln:=jW r' r h (jW r r' h' [])
theorem mO{r':List Ln}{h':List Str}{l:Ln}:∀(r acc:List Ln),l∈jW r r' h' acc↔l∈acc\/l∈r/\(l.nm.1∉h'\/l∈r')
 | [],acc=>by simp[jW]
 | x::r,acc=>by
  rw[show jW (x::r) r' h' acc=jW r r' h' (o9 r' h' acc x) from rfl,mO r]
  unfold o9
  split
  ·rename_i c
   rw[ZU,WO,XH]
   constructor
   ·rintro((h|rfl)|h)
    ·exact .inl h
    ·exact .inr ⟨.inl rfl,c.1⟩
    ·exact .inr ⟨.inr h.1,h.2⟩
   ·rintro(h|⟨rfl|h,h2⟩)
    ·exact .inl (.inl h)
    ·exact .inl (.inr rfl)
    ·exact .inr ⟨h,h2⟩
  ·rename_i c
   rw[XH]
   constructor
   ·rintro(h|h)
    ·exact .inl h
    ·exact .inr ⟨.inr h.1,h.2⟩
   ·rintro(h|⟨rfl|h,h2⟩)
    ·exact .inl h
    ·exact .inl (Classical.byContradiction λz=>c ⟨h2,z⟩)
    ·exact .inr ⟨h,h2⟩
theorem pH{r':List Ln}{h':List Str}:∀(r acc:List Ln),acc.Nodup->(jW r r' h' acc).Nodup
 | [],acc,h=>h
 | x::r,acc,h=>by
  rw[show jW (x::r) r' h' acc=jW r r' h' (o9 r' h' acc x) from rfl]
  refine pH r _ ?_
  unfold o9
  split
  ·rename_i c
   rw[aaZ]
   exact⟨h,by simp,λa ha b hb e=>c.2 (by rw[<-WO.mp hb,<-e];exact ha)⟩
  ·exact h
theorem Mg.due{D D':Dk}{s o f:Str}(G:Mg D D' s o)(I:Inv D)(I':Inv D')(nb:∀p∈D.made,p.other=none)(hs:s∈D.stores)(ho:o∈D.stores):(D'.row s f).Perm (Le (D.row s f) (D.row o f) (D.has s) (D.has o)):=by
 have nd:(D'.row s f).Nodup:=(abI.mp (((I'.rQ s f).map _).nodup_iff.mpr (I'.Gb s f))).imp λh e=>h (aaQ _ e)
 refine(List.perm_ext_iff_of_nodup nd (pH _ _ (pH _ _ aa9))).mpr λl=>?_
 rw[G.row I I' nb hs ho]
 rw[mO,mO]
 have hn:∀{t t':Str},t'∈D.stores->l∈D.row t f->(l.nm.1∉D.has t'↔l.nm.1∉D.held t'):=λ{t t'} ht h=>by
  unfold Dk.has
  rw[aal,abc]
  exact⟨λz w=>z ⟨(I.kA _ ht _ w).1,w⟩,λz w=>z w.2⟩
 constructor
 ·rintro(⟨h,h'⟩|⟨h,h'⟩)
  ·exact .inl (.inr ⟨h,by rw[hn ho h];exact h'⟩)
  ·exact .inr ⟨h,by rw[hn hs h];exact h'⟩
 ·rintro((h|⟨h,h'⟩)|⟨h,h'⟩)
  ·cases h
  ·exact .inl ⟨h,by rw[hn ho h] at h';exact h'⟩
  ·exact .inr ⟨h,by rw[hn hs h] at h';exact h'⟩
structure Tk(D D':Dk)(s o:Str)(done:List Str):Prop where
 inv:Inv D'
 made:D'.made=D.made
 iD:D'.iD=D.iD
 stores:D'.stores=D.stores
 other:D'.held o=D.held o
 up:∀y∈D.held s,y∈D'.held s
 all:∀y∈done,y∈D'.held s
 only:∀y∈D'.held s,y∈D.held s\/y∈D.held o
theorem Tk.step{D D':Dk}{s o x:Str}{done:List Str}(T:Tk D D' s o done)(I:Inv D)(hs:s∈D.stores)(ho:o∈D.stores)(qo:o≠s)(hx:x∈D.held o):Tk D (D'.take s x) s o (done++[x]):=by
 have eh:(D'.take s x).held s=D'.held s++D'.nO s x:=aan rfl
 have hn:x∈D'.names:=by unfold Dk.names;rw[T.made];exact(I.kA o ho x hx).1
 refine⟨T.inv.take (by rw[T.stores];exact hs) hn,T.made,T.iD,T.stores,(aac qo).trans T.other,λy hy=>?_,λy hy=>?_,λy hy=>?_⟩
 ·rw[eh];exact aad _ (T.up y hy)
 ·rw[eh]
  rcases ZU.mp hy with hy|hy
  ·exact aad _ (T.all y hy)
  ·rw[WO.mp hy]
   by_cases c:x∈D'.held s
   ·exact aad _ c
   ·exact aay _ (aal.mpr ⟨aay _ (WO.mpr rfl),WV c⟩)
 ·rw[eh] at hy
  rcases ZU.mp hy with hy|hy
  ·exact T.only y hy
  ·obtain⟨h1,_⟩:=aal.mp hy
   refine .inr ?_
   rcases ZU.mp h1 with h1|h1
   ·have h2:=aah (aal.mp h1).2
    rw[T.iD] at h2
    exact(I.kA o ho x hx).2 y h2
   ·rw[WO.mp h1];exact hx
theorem Tk.mg{D D':Dk}{s o:Str}(T:Tk D D' s o (D.has o))(I:Inv D)(ho:o∈D.stores):Mg D D' s o:=⟨T.made,λy=>⟨T.only y,λh=>h.elim (T.up y) λh=>T.all y (aal.mpr ⟨(I.kA o ho y h).1,WV h⟩)⟩⟩
end PM
namespace PK
open PySem L2 PM
open Kp (j_ iF)
def One(H0 H:Hp)(row:List Ln)(qu:List (Nat×Nat))(v:V):Prop:=∃u r c qs,v=.ref u/\H0 u=none/\H0 r=none/\H0 c=none/\H u=some (.lst [.ref r,.ref c])/\nM H r row/\H c=some (.lst qs)/\iF H qu qs
theorem One.same{H0 H H':Hp}{row:List Ln}{qu:List (Nat×Nat)}{v:V}(o:One H0 H row qu v)(s:gs H H'):One H0 H' row qu v:=by
 obtain⟨u,r,c,qs,e,h1,h2,h3,h4,h5,h6,h7⟩:=o
 refine⟨u,r,c,qs,e,h1,h2,h3,s _ _ h4,h5.same s,s _ _ h6,Paired.jh h7 λq v ⟨a,e,h⟩=>⟨a,e,s _ _ h⟩⟩
section
variable{P:Program}{w:World}{K:Qqy}{mg:Qqx}{base:Heap}{A:Ad}
def Qb(A:Ad):Sp:=λvs H Q _=>∃(d fs:Addr)(D:Dk)(W:Addr->Prop)(s:Str)(files:List Str),vs=[.ref d,.str s,.ref fs]/\ip A H d D W/\Inv D/\Small D.made/\s∈D.stores/\kW s/\H fs=some (.lst (gw files))/\files.length<=1000/\∀p H1 vs,gs H H1->H1 p=none->Paired (λv f=>One H H1 (D.row s f) (D.oz s f) v) vs files->Q (.ref p) (upd H1 p (.lst vs))
theorem Nj(T:Txt mg)(O:Ok K mg A):il P w K mg base mD 7 A.yz A.yA ["desk","store","files"] (Qb A):=by
 have uQ:=(@KZ P w K mg base A T O).Ij
 have nz:=(@yF P w K mg base A T O).Ij
 refine O.tK.f.q_ vN λjt A0 outer s H vs Q E hr h=>?_
 obtain⟨d,fs,D,W,st,files,rfl,X,I,sm,hs,GO,wD,QQ,q⟩:=h
 obtain⟨U,y⟩:=id X
 have sz:sizeLine=16777216:=aaw
 refine⟨_,(f_ (gZ (xT x8 (gr oR).names [3] rfl (iq (pv 2)) rfl (by decide+kernel) (λ_ _ _ _=>(iK (i:=3) vN.nd rfl (Or.inl rfl))) (λ_ _ _ _=>nV) (λ_ _ _ _=>CD (iQ (a_ (zH (pv 0) O.gP O.Am uQ hr (a_ (pv 1) (a_ (pv 3) d_))) (a_ (zH (pv 0) O.gP O.pz nz hr (a_ (pv 1) (a_ (pv 3) d_))) d_))))))),?_⟩
 let Jv:=λ(i:Nat) (ys:List V) (Z:St) (H4:Hp)=>∃(v3:Option V),Z=[rr d,rs st,rr fs,v3]/\gs H H4/\Paired (λv f=>One H H4 (D.row st f) (D.oz st f) v) ys (files.take i)
 refine⟨_,rfl,fs,rfl,⟨_,gO.of wD⟩,kR (K:=K) (a:=fs) (xs:=gw files) (by rw[Ob];omega) Jv
  ⟨none,rfl,gs.refl _,.nil⟩ (by rintro _ _ _ _ _ ⟨_,_,e,e2⟩;exact⟨gO.of (e _ _ wD),by rw[aak e2,aaC];omega⟩) ?_ ?_⟩
 ·rintro i v ys Z H4 hx ⟨v3,rfl,s4,e2⟩
  obtain⟨f,hf,rfl⟩:=mx hx
  refine⟨_,rfl,d,U.dx,_,rfl,s4 _ _ y.hd,KS,_,rfl,_,rfl,d,D,W,st,f,rfl,X.same s4,GO,sm,I,λh=>absurd hs h,λ_ r H5 NF rG xF=>?_⟩
  have s5:=s4.trans NF
  refine⟨_,rfl,d,U.dx,_,rfl,s5 _ _ y.hd,yE,_,rfl,_,rfl,d,D,W,st,f,rfl,X.same s5,GO,sm,I,λh=>absurd hs h,λ_ c H6 qs QN Uv QF YU=>⟨L2.jS,λu hu=>?_⟩⟩
  have V5:gs H6 (upd H6 u (.lst [.ref r,.ref c])):=(gs.refl H6).new hu
  have s47:=(NF.trans QN).trans V5
  refine⟨_,rfl,s4.trans s47,?_⟩
  rw[take_snoc hf]
  refine iz (Paired.jh e2 λ_ _ z=>z.same s47) ?_
  exact⟨u,r,c,qs,rfl,((s5.trans QN)).free hu,s4.free rG,s5.free Uv,b_,(xF.same QN).same V5,V5 _ _ QF,Paired.jh YU λq v ⟨a,e,h⟩=>⟨a,e,V5 _ _ h⟩⟩
 ·rintro ys Z H4 ⟨v3,rfl,s4,e2⟩ p hp
  rw[Ob,aaq] at e2
  exact q p H4 ys s4 hp e2
theorem Rep.S4{H:Hp}{n:Nat}{v:V}{xs:List Dv}(r:Rep H n v (.l xs)):∃a vs m,v=.ref a/\H a=some (.lst vs)/\vs.length=xs.length/\∀(j:Nat) u d,vs[j]?=some u->xs[j]?=some d->Rep H m u d:=by
 cases r with
 | l h hl hr=>exact⟨_,_,_,rfl,h,hl,hr⟩
theorem Rep.S5{H:Hp}{n:Nat}{v:V}{xs:List Dv}(r:Rep H n v (.t xs)):∃a vs m,v=.ref a/\H a=some (.tup vs)/\vs.length=xs.length/\∀(j:Nat) u d,vs[j]?=some u->xs[j]?=some d->Rep H m u d:=by
 cases r with
 | t h hl hr=>exact⟨_,_,_,rfl,h,hl,hr⟩
theorem Rep.S6{H:Hp}{n:Nat}{v:V}{x:Str}(r:Rep H n v (.s x)):v=.str x:=by cases r;rfl
theorem Rep.Qc{H:Hp}{n:Nat}{v:V}{x:Int}(r:Rep H n v (.i x)):v=.int x:=by cases r;rfl
theorem Rep.S7{H:Hp}{n:Nat}{v:V}{x z:Str}{k:Int}(r:Rep H n v (.t [.s x,.i k,.s z])):∃a,v=.ref a/\H a=some (.tup [.str x,.int k,.str z]):=by
 obtain⟨a,vs,m,e,h,hl,hr⟩:=r.S5
 match vs,hl,hr,h with
 | [u1,u2,u3],_,hr,h=>
  have e1:=(hr 0 u1 _ rfl rfl).S6
  have e2:=(hr 1 u2 _ rfl rfl).Qc
  have e3:=(hr 2 u3 _ rfl rfl).S6
  subst e1 e2 e3
  exact⟨a,e,h⟩
theorem Rep.S8{H:Hp}{n:Nat}{v:V}{x z:Int}(r:Rep H n v (.t [.i x,.i z])):∃a,v=.ref a/\H a=some (.tup [.int x,.int z]):=by
 obtain⟨a,vs,m,e,h,hl,hr⟩:=r.S5
 match vs,hl,hr,h with
 | [u1,u2],_,hr,h=>
  have e1:=(hr 0 u1 _ rfl rfl).Qc
  have e2:=(hr 1 u2 _ rfl rfl).Qc
  subst e1 e2
  exact⟨a,e,h⟩
theorem Lf:W.kitOne K (.type "list") (.type "list")=some true:=aan (by decide)
theorem Lg:W.kitOne K (.type "str") (.type "str")=some true:=aan (by decide)
theorem Lh:W.kitOne K (.type "tuple") (.type "tuple")=some true:=aan (by decide)
theorem Qd:W.kitOne K (.type "int") (.type "int")=some true:=aan (by decide)
theorem Qe:W.kitOne K (.type "int") (.type "bool")=some false:=by kernel_rfl
def Nk:Sp:=λvs H Q _=>∃i:Int,vs=[.int i]/\Q (.bl true) H
theorem Fi(T:Txt mg)(O:Ok K mg A):il P w K mg base mD 1 A.vW A.vX ["found"] Nk:=by
 refine O.qN.f.q_ A7 λjt A outer s H vs Q E hr h=>?_
 obtain⟨i,rfl,q⟩:=h
 refine⟨_,(f_ (gZ (OA (gM j5 (by rfl) T.jM aaX (a_ (pv 0) (a_ (oE (v:=.ty "int") (by rfl) T.Ss PyProof.Rows.boot_int rfl) d_))) (Oz (OB (gM j5 (by rfl) T.jM aaX (a_ (pv 0) (a_ (oE (v:=.ty "bool") (by rfl) T.Pj PyProof.Rows.boot_bool rfl) d_)))))))),?_⟩
 refine⟨_,rfl,_,_,_,_,rfl,.int i,Qd,_,rfl,lX ?_⟩
 exact⟨_,rfl,_,_,_,_,rfl,.int i,Qe,_,rfl,q⟩
def Jc:Sp:=λvs H Q _=>∃(v:V)(n:Nat)(row:List Ln),vs=[v]/\Rep H n v (SW row)/\Q (.bl true) H
theorem Fj(T:Txt mg)(O:Ok K mg A):il P w K mg base mD 2 A.rq A.rA ["row"] Jc:=by
 have nR:=@Fi P w K mg base A T O
 refine O.uq.f.q_ pV λjt A outer s H vs Q E hr h=>?_
 obtain⟨v,n,row,rfl,rp,q⟩:=h
 obtain⟨p,ps,m,rfl,hp,hl,YV⟩:=rp.S4
 refine⟨_,(de (iC (ku (kX (gM j5 (by rfl) T.jM aaX (a_ (pv 0) (a_ (oE (v:=.ty "list") (by rfl) T.zW ab2 rfl) d_))))) (f_ (gZ kG)) g_)
   (de (ix aar rfl (iq (pv 0)) (rF 1 pV) (de (iC ((pw_or (ku (kX (gM j5 (by rfl) T.jM aaX (a_ (pv 1) (a_ (oE (v:=.ty "tuple") (by rfl) T.Hf PyProof.Rows.boot_tuple rfl) d_))))) (pw_or (ij GY (gM gD (by rfl) T.jC aav (a_ (pv 1) d_)) gq (iP _)) (pw_or1 (ku (kX (gM j5 (by rfl) T.jM aaX (a_ (jH l8 (pv 1) gq (λ_ _=>rfl)) (a_ (oE (v:=.ty "str") (by rfl) T.NS PyProof.Rows.boot_str rfl) d_)))))))).pt) (f_ (gZ kG)) g_)
   (f_ (iC ((pw_or (ku (kX (oM O.qN nR hr (a_ (jH l8 (pv 1) gq (λ_ _=>rfl)) d_)))) (pw_or1 (ku (kX (gM j5 (by rfl) T.jM aaX (a_ (jH l8 (pv 1) gq (λ_ _=>rfl)) (a_ (oE (v:=.ty "str") (by rfl) T.NS PyProof.Rows.boot_str rfl) d_))))))).pt) (f_ (gZ kG)) g_))))
   (f_ (gZ kG)))),?_⟩
 refine Ep ?_;intro _ _
 refine⟨_,rfl,_,_,_,_,rfl,.lst hp,Lf,_,rfl,jD ?_⟩
 let Jv:=λ(i:Nat) (Z:St) (H2:Hp)=>∃v,Z=[rr p,v]/\H2=H
 refine⟨_,rfl,p,rfl,⟨_,gO.of hp⟩,iV (K:=K) (a:=p) (xs:=ps) Jv ⟨none,rfl,rfl⟩ (by rintro _ _ _ _ ⟨_,_,e⟩;rw[e];exact gO.of hp) ?_ ?_⟩
 ·rintro i y Z H2 hi ⟨v,rfl,rfl⟩
  have jT:=(List.getElem?_eq_some_iff.mp hi).1
  rw[hl,Ob] at jT
  have wz:(row.map λl=>Dv.t [.s l.nm.1,.i l.nm.2,.s l.tx])[i]?=some (.t [.s row[i].nm.1,.i row[i].nm.2,.s row[i].tx]):=by rw[aam,TH jT];rfl
  obtain⟨a,rfl,ha⟩:=(YV i y _ hi wz).S7
  refine⟨_,rfl,_,_,_,_,rfl,.tup ha,Lh,_,rfl,jD ?_⟩
  refine⟨_,rfl,a,_,rfl,.inr (pf.of ha),rfl,_,rfl,J0 (by rfl) ?_⟩
  refine⟨_,rfl,a,_,_,_,rfl,rfl,pf.of ha,gJ (j:=0) rfl rfl,_,_,_,_,rfl,.str _,Lg,_,rfl,jD ?_⟩
  refine⟨_,rfl,a,_,_,_,rfl,rfl,pf.of ha,gJ (j:=1) rfl rfl,_,rfl,_,rfl,jD ?_⟩
  refine⟨_,rfl,a,_,_,_,rfl,rfl,pf.of ha,gJ (j:=2) rfl rfl,_,_,_,_,rfl,.str _,Lg,_,rfl,jD ?_⟩
  exact⟨_,rfl,rfl⟩
 ·rintro Z H2 ⟨v,rfl,rfl⟩
  exact q
def Fl:Sp:=λvs H Q _=>∃(v:V)(n:Nat)(qs:List (Nat×Nat)),vs=[v]/\Rep H n v (Z1 qs)/\Q (.bl true) H
theorem Bn(T:Txt mg)(O:Ok K mg A):il P w K mg base mD 2 A.o3 A.o4 ["found"] Fl:=by
 have nR:=@Fi P w K mg base A T O
 refine O.nu.f.q_ oj λjt A outer s H vs Q E hr h=>?_
 obtain⟨v,n,row,rfl,rp,q⟩:=h
 obtain⟨p,ps,m,rfl,hp,hl,YV⟩:=rp.S4
 refine⟨_,(de (iC (ku (kX (gM j5 (by rfl) T.jM aaX (a_ (pv 0) (a_ (oE (v:=.ty "list") (by rfl) T.zW ab2 rfl) d_))))) (f_ (gZ kG)) g_)
   (de (ix aar rfl (iq (pv 0)) (rF 1 oj) (f_ (iC ((pw_or (ku (kX (gM j5 (by rfl) T.jM aaX (a_ (pv 1) (a_ (oE (v:=.ty "tuple") (by rfl) T.Hf PyProof.Rows.boot_tuple rfl) d_))))) (pw_or (ij GY (gM gD (by rfl) T.jC aav (a_ (pv 1) d_)) gq (iP _)) (pw_or (ku (kX (oM O.qN nR hr (a_ (jH l8 (pv 1) gq (λ_ _=>rfl)) d_)))) (pw_or1 (ku (kX (oM O.qN nR hr (a_ (jH l8 (pv 1) gq (λ_ _=>rfl)) d_)))))))).pt) (f_ (gZ kG)) g_)))
   (f_ (gZ kG)))),?_⟩
 refine Ep ?_;intro _ _
 refine⟨_,rfl,_,_,_,_,rfl,.lst hp,Lf,_,rfl,jD ?_⟩
 let Jv:=λ(i:Nat) (Z:St) (H2:Hp)=>∃v,Z=[rr p,v]/\H2=H
 refine⟨_,rfl,p,rfl,⟨_,gO.of hp⟩,iV (K:=K) (a:=p) (xs:=ps) Jv ⟨none,rfl,rfl⟩ (by rintro _ _ _ _ ⟨_,_,e⟩;rw[e];exact gO.of hp) ?_ ?_⟩
 ·rintro i y Z H2 hi ⟨v,rfl,rfl⟩
  have jT:=(List.getElem?_eq_some_iff.mp hi).1
  rw[hl,Ob] at jT
  have wz:(row.map λq=>Dv.t [.i q.1,.i q.2])[i]?=some (.t [.i row[i].1,.i row[i].2]):=by rw[aam,TH jT];rfl
  obtain⟨a,rfl,ha⟩:=(YV i y _ hi wz).S8
  refine⟨_,rfl,_,_,_,_,rfl,.tup ha,Lh,_,rfl,jD ?_⟩
  refine⟨_,rfl,a,_,rfl,.inr (pf.of ha),rfl,_,rfl,J0 (by rfl) ?_⟩
  refine⟨_,rfl,a,_,_,_,rfl,rfl,pf.of ha,gJ (j:=0) rfl rfl,_,rfl,_,rfl,jD ?_⟩
  refine⟨_,rfl,a,_,_,_,rfl,rfl,pf.of ha,gJ (j:=1) rfl rfl,_,rfl,_,rfl,jD ?_⟩
  exact⟨_,rfl,rfl⟩
 ·rintro Z H2 ⟨v,rfl,rfl⟩
  exact q
theorem Li(x:Str):∀l:List Str,U9 (.str x) (gw l)=decide (x∈l):=by
 intro l
 unfold U9
 induction l with
 | nil=>rfl
 | cons a r ih=>
  show((gw (a::r)).any λy=>G6 y (.str x))=_
  rw[show gw (a::r)=V.str a::gw r from rfl,abX,ih]
  show((a ==x)||decide (x∈r))=_
  rw[aa4]
  simp only [ab_,abS,abc,XH]
  exact⟨λh=>h.imp Eq.symm id,λh=>h.imp Eq.symm id⟩
theorem Jd(l:List Str):(gw l).all lF=true:=by simp[gw,lF]
theorem Paired.flip{Z Y:Type}{F:Z->Y->Prop}{xs:List Z}{ys:List Y}(p:Paired F xs ys):Paired (λy x=>F x y) ys xs:=by
 induction p with
 | nil=>exact .nil
 | cons f _ ih=>exact .cons f ih
open Classical in
theorem in_of{K:Qqy}{H:Hp}{Z Y:Type}[DecidableEq Y]{F:V->Z->Prop}{key:Z->Y}{n:Nat}{x:V}{b:Y}{vs:List V}{ls:List Z}(p:Paired F vs ls)(uni:∀z a a',F z a->F z a'->key a=key a')(heq:∀z a,F z a->lY K H n z x (decide (key a=b))):∃g:V->Bool,(∀z a,F z a->g z=decide (key a=b))/\(∀z∈vs,lY K H n z x (g z))/\(vs.any g=true↔b∈ls.map key):=by
 have kg:∀z a,F z a->decide (∃a,F z a/\key a=b)=decide (key a=b):=λz a h=>by
  rw[decide_eq_decide]
  exact⟨λ⟨a',h',e⟩=>by rw[uni z a a' h h'];exact e,λe=>⟨a,h,e⟩⟩
 refine⟨λz=>decide (∃a,F z a/\key a=b),kg,λz hz=>?_,?_⟩
 ·obtain⟨i,hi⟩:=aaG.mp hz
  obtain⟨a,_,ha⟩:=ik p hi
  show lY K H n z x (decide (∃a,F z a/\key a=b))
  rw[kg z a ha]
  exact heq z a ha
 ·rw[List.any_eq_true,aaA]
  constructor
  ·rintro⟨z,hz,e⟩
   obtain⟨i,hi⟩:=aaG.mp hz
   obtain⟨a,VT,ha⟩:=ik p hi
   have e:decide (∃a,F z a/\key a=b)=true:=e
   rw[kg z a ha] at e
   exact⟨a,WW VT,aah e⟩
  ·rintro⟨a,ha,e⟩
   obtain⟨i,hi⟩:=aaG.mp ha
   obtain⟨z,hz0,hz⟩:=iY p hi
   exact⟨z,WW hz0,(kg z a hz).trans (WV e)⟩
theorem Je{H:Hp}{x:V}{l l':Ln}(h:ox H x l)(h':ox H x l'):tr l=tr l':=by
 obtain⟨a,rfl,h1⟩:=h
 obtain⟨b,e2,h2⟩:=h'
 cases e2
 rw[h1] at h2
 injection h2 with h2
 injection h2 with h2
 simp only [List.cons.injEq,V.str.injEq,V.int.injEq,and_true] at h2
 unfold tr
 rw[h2.1,aco h2.2.1,h2.2.2]
theorem Qf{K:Qqy}{H:Hp}{n:Nat}{x y:V}{l l':Ln}(hx:ox H x l)(hy:ox H y l'):lY K H (n+2) x y (decide (tr l=tr l')):=by
 obtain⟨t,rfl,h⟩:=hx
 obtain⟨t',rfl,h'⟩:=hy
 have z:=lY.pN (K:=K) (H:=H) (n:=n+1) (e:=λj=>match j with|0=>decide (l.nm.1=l'.nm.1)|1=>decide ((l.nm.2:Int)=l'.nm.2)|_=>decide (l.tx=l'.tx)) (pf.of h) (pf.of h') λj u v hu hv=>by
  match j with
  | 0=>cases hu;cases hv;exact lY.Cy _ _
  | 1=>cases hu;cases hv;exact lY.Cz _ _
  | 2=>cases hu;cases hv;exact lY.Cy _ _
  | j+3=>simp at hu
 have e:((List.range 3).all (λj=>match j with|0=>decide (l.nm.1=l'.nm.1)|1=>decide ((l.nm.2:Int)=l'.nm.2)|_=>decide (l.tx=l'.tx))&&true)=decide (tr l=tr l'):=by
  rw[Bool.and_true,aa4]
  simp only [abq,abf,abc]
  unfold tr
  constructor
  ·intro g
   have h0:=aah (g 0 (by decide))
   have h1:=aah (g 1 (by decide))
   have h2:=aah (g 2 (by decide))
   rw[h0,aco h1,h2]
  ·intro g j hj
   have h0:=aaQ Prod.fst g
   have h1:=aaQ (λz=>z.2.1) g
   have h2:=aaQ (λz=>z.2.2) g
   match j,hj with
   | 0,_=>exact WV h0
   | 1,_=>exact WV (aaQ Int.ofNat h1)
   | 2,_=>exact WV h2
 rw[<-e]
 exact z
theorem HE{K:Qqy}{H:Hp}{x:V}{l:Ln}{vs:List V}{row:List Ln}(p:Paired (ox H) vs row)(hx:ox H x l):∃g:V->Bool,(∀z a,ox H z a->g z=decide (tr a=tr l))/\(∀z∈vs,lY K H 3 z x (g z))/\(vs.any g=true↔tr l∈row.map tr):=
 in_of p (λz a a'=>Je) λz a h=>Qf h hx
theorem N1{K:Qqy}{H:Hp}{x:V}{q:Nat×Nat}{vs:List V}{qs:List (Nat×Nat)}(p:iF H qs vs)(hx:j_ H q x):∃g:V->Bool,(∀z∈vs,lY K H 3 z x (g z))/\(vs.any g=true↔q∈qs):=by
 obtain⟨g,_,h1,h2⟩:=in_of (K:=K) (H:=H) (n:=3) (x:=x) (b:=q) (key:=id) (Paired.flip p) (λz a a' h h'=>by
  obtain⟨t,rfl,h⟩:=h
  obtain⟨t',e,h'⟩:=h'
  cases e
  rw[h] at h'
  injection h' with h'
  injection h' with h'
  simp only [List.cons.injEq,V.int.injEq,and_true] at h'
  exact Prod.ext (aco h'.1) (aco h'.2)) λz a h=>by
  obtain⟨t,rfl,h⟩:=h
  obtain⟨t',rfl,h'⟩:=hx
  have z:=lY.pN (K:=K) (H:=H) (n:=2) (e:=λj=>match j with|0=>decide ((a.1:Int)=q.1)|_=>decide ((a.2:Int)=q.2)) (pf.of h) (pf.of h') λj u v hu hv=>by
   match j with
   | 0=>cases hu;cases hv;exact lY.Cz _ _
   | 1=>cases hu;cases hv;exact lY.Cz _ _
   | j+2=>simp at hu
  have e:((List.range 2).all (λj=>match j with|0=>decide ((a.1:Int)=q.1)|_=>decide ((a.2:Int)=q.2))&&true)=decide (id a=q):=by
   rw[Bool.and_true,aa4]
   simp only [abq,abf,abc]
   constructor
   ·intro g
    exact Prod.ext (aco (aah (g 0 (by decide)))) (aco (aah (g 1 (by decide))))
   ·intro g j hj
    have g:a=q:=g
    match j,hj with
    | 0,_=>exact WV (by rw[g])
    | 1,_=>exact WV (by rw[g])
  rw[<-e]
  exact z
 exact⟨g,h1,by rw[h2,List.map_id]⟩
def S9:Sp:=λvs H Q _=>∃(ra ha r0 r1 h0 h1:Addr)(s_ tf:List Ln)(k0 k1:List Str),vs=[.ref ra,.ref ha]/\H ra=some (.lst [.ref r0,.ref r1])/\nM H r0 s_/\nM H r1 tf/\H ha=some (.lst [.ref h0,.ref h1])/\H h0=some (.lst (gw k0))/\H h1=some (.lst (gw k1))/\s_.length<=64/\tf.length<=64/\
 (∀l∈s_++tf,∀l'∈s_++tf,tr l=tr l'->l=l')/\∀p H' vs,gs H H'->H' p=some (.lst vs)->Paired (ox H') vs (Le s_ tf k0 k1)->Q (.ref p) H'
open Classical in
theorem Qg(T:Txt mg)(O:Ok K mg A):il P w K mg base mD 2 A.Ag A.Ai ["rows","having"] S9:=by
 refine O.EV.f.q_ mI λjt A outer s H vs Q E hr h=>?_
 obtain⟨ra,ha,r0,r1,h0,h1,s_,tf,k0,k1,rfl,hrr,rG,xF,hha,V6,LV,l0,l1,un,q⟩:=h
 have sz:sizeLine=16777216:=aaw
 refine⟨_,(de (k8 2 mI (iQ d_))
   (de (ix aar rfl (jE rfl T.kE (a_ gq d_)) (rF 3 mI) (f_ (ix aar rfl (iq (lC (pv 0) (pv 3))) (rF 4 mI) (de (k8 5 mI (L5 H_ (jH l8 (pv 4) gq (λ_ _=>rfl)) (lC (pv 1) (gG wH gq (pv 3))) rfl))
   (f_ (iC (FY ((pw_and ((pw_or (ku (kX (pv 5))) (pw_or1 (ij (Dq 3 (by exact LM hr)) (pv 4) (lC (pv 0) (gG wH gq (pv 3))) rfl))).pt) (pw_and1 (ij (B9 3 (by exact LM hr)) (pv 4) (pv 2) rfl))).pt)) (f_ (h_ (nS aaF aaS aaT kj (pv 2) (a_ (pv 4) d_)))) g_))))))
   (f_ (gZ (pv 2))))),?_⟩
 refine Ep ?_;intro _ _
 refine⟨L2.jS,λL hL=>?_⟩
 have u1:(upd H L (.lst [])) L=some (.lst []):=b_
 have s1:gs H (upd H L (.lst [])):=(gs.refl H).new hL
 generalize upd H L (.lst [])=H1 at u1 s1
 obtain⟨Ac,a0,a1,a2⟩:∃Ac:Nat->List Ln,Ac 0=[]/\Ac 1=jW s_ tf k1 []/\Ac 2=Le s_ tf k0 k1:=⟨λi=>if i=0 then[] else if i=1 then jW s_ tf k1 [] else Le s_ tf k0 k1,rfl,rfl,rfl⟩
 refine⟨_,rfl,by decide,by decide,?_⟩
 let Jv:=λ(i:Nat) (Z:St) (H2:Hp)=>∃(v3 v4 v5:Option V)(vs:List V),Z=[rr ra,rr ha,rr L,v3,v4,v5]/\gs H H2/\H2 L=some (.lst vs)/\vs.length<=i*64/\Paired (ox H) vs (Ac i)
 refine jX (n:=2) Jv ⟨none,none,none,[],rfl,s1,u1,aaI _,by rw[a0];exact .nil⟩ ?_ ?_
 ·rintro i Z H2 hi ⟨v3,v4,v5,vs,rfl,s2,u2,HH,p2⟩
  rw[show(0:Int)+(i:Int)=(i:Int) by omega]
  obtain⟨r,r',hk,row,oy,ks,e1,e2,e3,hr,UN,YT,hl,xA,UO,Qt,eA⟩:∃(r r' hk:Addr)(row oy:List Ln)(ks:List Str),Cn [V.ref r0,V.ref r1] (i:Int)=some (.ref r)/\Cn [V.ref r0,V.ref r1] (1-(i:Int))=some (.ref r')/\Cn [V.ref h0,V.ref h1] (1-(i:Int))=some (.ref hk)/\nM H r row/\nM H r' oy/\H hk=some (.lst (gw ks))/\row.length<=64/\(∀l∈row,l∈s_++tf)/\(∀l∈oy,l∈s_++tf)/\(∀l∈Ac i,l∈s_++tf)/\Ac (i+1)=jW row oy ks (Ac i):=by
   rcases(by omega:i=0\/i=1) with rfl|rfl
   ·exact⟨r0,r1,h1,s_,tf,k1,gJ (j:=0) rfl rfl,gJ (j:=1) rfl rfl,gJ (j:=1) rfl rfl,rG,xF,LV,l0,λl hl=>aad _ hl,λl hl=>aay _ hl,λl hl=>(by rw[a0] at hl;cases hl),by rw[a0];exact a1⟩
   ·exact⟨r1,r0,h0,tf,s_,k0,gJ (j:=1) rfl rfl,gJ (j:=0) rfl rfl,gJ (j:=0) rfl rfl,xF,rG,V6,l1,λl hl=>aay _ hl,λl hl=>aad _ hl,λl hl=>(by rw[a1] at hl;exact aad _ (((mO _ _).mp hl).resolve_left (λz=>by cases z)).1),by rw[a1];exact a2⟩
  obtain⟨rv,g1,g2⟩:=id hr
  obtain⟨LD,g1',g2'⟩:=id UN
  have DV:=aak g2
  refine⟨_,rfl,_,rfl,ra,_,_,_,rfl,rfl,gO.of (s2 _ _ hrr),e1,r,rfl,⟨_,gO.of (s2 _ _ g1)⟩,?_⟩
  let Jv:=λ(j:Nat) (Z:St) (H3:Hp)=>∃(v4 v5:Option V)(vs:List V),Z=[rr ra,rr ha,rr L,ri i,v4,v5]/\gs H H3/\H3 L=some (.lst vs)/\vs.length<=i*64+j/\Paired (ox H) vs (jW (row.take j) oy ks (Ac i))
  refine iV (K:=K) (a:=r) (xs:=rv) Jv ⟨v4,v5,vs,rfl,s2,u2,HH,p2⟩ (by rintro _ _ _ _ ⟨_,_,_,_,s3,_⟩;exact gO.of (s3 _ _ g1)) ?_ ?_
  ·rintro j v Z H3 hv ⟨v4,v5,vs,rfl,s3,u3,V7,p3⟩
   obtain⟨l,LS,ht⟩:=ik g2 hv
   obtain⟨t,rfl,NB⟩:=id ht
   have Rv:=xA l (WW LS)
   have hjr:j<row.length:=(List.getElem?_eq_some_iff.mp LS).1
   have ht3:ox H3 (.ref t) l:=⟨t,rfl,s3 _ _ NB⟩
   have up3:∀{us:List V} {ls:List Ln},Paired (ox H) us ls->Paired (ox H3) us ls:=λp=>Paired.jh p λv l ⟨t,e,h⟩=>⟨t,e,s3 _ _ h⟩
   refine⟨_,rfl,t,_,_,_,rfl,rfl,pf.of (s3 _ _ NB),gJ (j:=0) rfl rfl,_,rfl,_,rfl,_,_,rfl,rfl,ha,_,_,_,rfl,rfl,gO.of (s3 _ _ hha),e3,hk,_,rfl,.inl (gO.of (s3 _ _ YT)),rfl,Jd _,?_⟩
   rw[Li]
   generalize wx:jW (row.take j) oy ks (Ac i)=acc at p3
   have hm3:∀l∈acc,l∈s_++tf:=λl hl=>by
    rw[<-wx] at hl
    rcases(mO _ _).mp hl with h|h
    ·exact Qt l h
    ·exact xA l (List.mem_of_mem_take h.1)
   have inr:∀{ls:List Ln},(∀l∈ls,l∈s_++tf)->(tr l∈ls.map tr↔l∈ls):=λh=>⟨λz=>by
    obtain⟨l',DW,e⟩:=aaA.mp z
    rw[<-un l' (h l' DW) l Rv e];exact DW,λz=>YO z⟩
   refine⟨λb H4=>H4=H3/\b=decide ((l.nm.1∉ks\/l∈oy)/\l∉acc),?_,?_⟩
   ·obtain⟨g,_,LR,UP⟩:=HE (K:=K) (up3 g2') ht3
    obtain⟨g',_,UQ,UR⟩:=HE (K:=K) (up3 p3) ht3
    rw[inr UO] at UP
    rw[inr hm3] at UR
    have fin:(l.nm.1∉ks\/l∈oy)->decide (l∉acc)=decide ((l.nm.1∉ks\/l∈oy)/\l∉acc):=λh=>by
     rw[decide_eq_decide];exact⟨λz=>⟨h,z⟩,λz=>z.2⟩
    have nb:(!vs.any g')=decide (l∉acc):=by rw[aa4,Bool.not_eq_true',<-Bool.not_eq_true,UR,abc]
    refine⟨_,rfl,_,rfl,kF (λhz=>?_) (λhz=>?_)⟩
    ·have hz:(!decide (l.nm.1∈ks))=true:=hz
     refine⟨_,rfl,_,rfl,L,vs,g',rfl,gO.of u3,UQ,_,rfl,rfl,?_⟩
     rw[aan rfl,nb]
     exact fin (.inl (by simpa using hz))
    ·have hz:¬(!decide (l.nm.1∈ks))=true:=hz
     refine⟨_,rfl,_,rfl,_,rfl,_,_,rfl,rfl,ra,_,_,_,rfl,rfl,gO.of (s3 _ _ hrr),e2,r',LD,g,rfl,gO.of (s3 _ _ g1'),LR,_,rfl,kF (λhg=>?_) (λhg=>?_)⟩
     ·have hg:LD.any g=true:=hg
      refine⟨_,rfl,_,rfl,L,vs,g',rfl,gO.of u3,UQ,_,rfl,rfl,?_⟩
      rw[aan rfl,nb]
      exact fin (.inr (UP.mp hg))
     ·have hg:¬LD.any g=true:=hg
      refine⟨rfl,(ZW λz=>?_).symm⟩
      rcases z.1 with z|z
      ·exact hz (by simpa using z)
      ·exact hg (UP.mpr z)
   ·rintro b H4 ⟨rfl,hb⟩
    have es:jW (row.take (j+1)) oy ks (Ac i)=o9 oy ks acc l:=by
     rw[take_snoc LS,<-wx]
     unfold jW
     rw[List.foldl_append]
     rfl
    by_cases c:(l.nm.1∉ks\/l∈oy)/\l∉acc
    ·rw[hb,WV c]
     refine lX ⟨_,rfl,.inl ⟨rfl,_,gO.of u3⟩,_,rfl,L,_,_,rfl,rfl,u3,by omega,?_⟩
     refine⟨_,_,vs++[.ref t],rfl,s3.upd hL,b_,by rw[XF];show _+1<=_;omega,?_⟩
     rw[es,show o9 oy ks acc l=acc++[l] from aan c]
     exact iz p3 ht
    ·rw[hb,ZW c]
     refine jD ⟨_,_,vs,rfl,s3,u3,by omega,?_⟩
     rw[es,show o9 oy ks acc l=acc from aac c]
     exact p3
  ·rintro Z H3 ⟨v4,v5,vs,rfl,s3,u3,V7,p3⟩
   rw[DV,aaq,<-eA] at p3
   exact⟨_,_,_,vs,rfl,s3,u3,by omega,p3⟩
 ·rintro Z H2 ⟨v3,v4,v5,vs,rfl,s2,u2,HH,p2⟩
  rw[a2] at p2
  exact⟨_,rfl,q L H2 vs s2 u2 (Paired.jh p2 λv l ⟨t,e,h⟩=>⟨t,e,s2 _ _ h⟩)⟩
def Mn(H:Hp)(v:V)(row:List Ln)(qs:List (Nat×Nat)):Prop:=∃u r c vs,v=.ref u/\H u=some (.lst [.ref r,.ref c])/\nM H r row/\H c=some (.lst vs)/\iF H qs vs
def Qh:Sp:=λvs H Q _=>∃(b e:V)(row oy:List Ln)(qs YW:List (Nat×Nat)),vs=[b,e]/\Mn H b row qs/\Mn H e oy YW/\row.length<=64/\oy.length<=64/\
 (∀(i j a b:Nat)(l m l' m':Ln),i<j->row[i]?=some l->row[j]?=some m->(i,j)∉qs->oy[a]?=some l'->oy[b]?=some m'->tr l'=tr l->tr m'=tr m->a<=b/\(a,b)∉YW)/\∀H',gs H H'->Q (.bl true) H'
theorem Lj{row:List Ln}{l:Ln}(h:tr l∈row.map tr):∃(a:Nat)(l':Ln),row[a]?=some l'/\tr l'=tr l/\∀(m:Nat)(x:Ln),m<a->row[m]?=some x->tr x≠tr l:=by
 induction row with
 | nil=>cases h
 | cons x r ih=>
  by_cases c:tr x=tr l
  ·exact⟨0,x,rfl,c,λm _ h=>absurd h (Nat.not_lt_zero _)⟩
  ·rw[aat,XH] at h
   obtain⟨a,l',h1,h2,h3⟩:=ih (h.resolve_left λz=>c z.symm)
   refine⟨a+1,l',h1,h2,λm y hm hy=>?_⟩
   cases m with
   | zero=>cases hy;exact c
   | succ m=>exact h3 m y (by omega) hy
theorem xx(T:Txt mg)(O:Ok K mg A):il P w K mg base mD 2 A.mJ A.mL ["before","behind"] Qh:=by
 refine O.ow.f.q_ iN λjt A outer s H vs Q E hr h=>?_
 obtain⟨bv,ev,row,oy,qs,YW,rfl,⟨b,r,c,cv,rfl,hb,⟨rv,xF,Ce⟩,QF,YU⟩,⟨e,r',c',cv',rfl,he,⟨LD,YX,US⟩,YY,YZ⟩,l1,l2,ord,q⟩:=h
 have sz:sizeLine=16777216:=aaw
 have hvl:=aak Ce
 have hvl':=aak US
 refine⟨_,(de (ix aar rfl (jE rfl T.kE (a_ (gM gD (by rfl) T.jC aav (a_ (lC (pv 0) gq) d_)) d_)) (rF 2 iN) (f_ (ix aar rfl (wG rfl T.kE (a_ (gG iG (pv 2) gq) (a_ (gM gD (by rfl) T.jC aav (a_ (lC (pv 0) gq) d_)) d_))) (rF 3 iN) (de (k8 4 iN (lC (lC (pv 0) gq) (pv 2)))
   (de (k8 5 iN (lC (lC (pv 0) gq) (pv 3)))
   (f_ (iC ((pw_and (ij (B9 3 (by exact LM hr)) (wK (a_ (pv 2) (a_ (pv 3) d_))) (lC (pv 0) gq) rfl) (pw_and (ij (Dq 3 (by exact LM hr)) (pv 4) (lC (pv 1) gq) rfl) (pw_and1 (ij (Dq 3 (by exact LM hr)) (pv 5) (lC (pv 1) gq) rfl)))).pt) (de (k8 6 iN (wK (a_ (nS aaF PySem.F.slot_list_index PySem.F.type_list_index (B_ 3 (by exact LM hr)) (lC (pv 1) gq) (a_ (pv 4) d_)) (a_ (nS aaF PySem.F.slot_list_index PySem.F.type_list_index (B_ 3 (by exact LM hr)) (lC (pv 1) gq) (a_ (pv 5) d_)) d_))))
   (f_ (iC ((pw_or (ij Bw (jH l8 (pv 6) gq (λ_ _=>rfl)) (jH l8 (pv 6) gq (λ_ _=>rfl)) (iP _)) (pw_or1 (ij (Dq 3 (by exact LM hr)) (pv 6) (lC (pv 1) gq) rfl))).pt) (f_ (gZ kG)) g_))) g_)))))))
   (f_ (gZ kG))),?_⟩
 refine JT ?_;intro _
 refine⟨_,rfl,b,_,_,_,rfl,rfl,gO.of hb,gJ (j:=0) rfl rfl,r,_,rfl,.inl (gO.of xF),_,rfl,by omega,by omega,?_⟩
 rw[abF]
 let Jv:=λ(i:Nat) (Z:St) (H2:Hp)=>∃(v2 v3 v4 v5 v6:Option V),Z=[rr b,rr e,v2,v3,v4,v5,v6]/\gs H H2
 refine jX Jv ⟨none,none,none,none,none,rfl,gs.refl _⟩ ?_ ?_
 ·rintro i Z H2 hi ⟨v2,v3,v4,v5,v6,rfl,s2⟩
  rw[show(0:Int)+(i:Int)=(i:Int) by omega]
  refine⟨_,rfl,_,_,rfl,rfl,_,rfl,b,_,_,_,rfl,rfl,gO.of (s2 _ _ hb),gJ (j:=0) rfl rfl,r,_,rfl,.inl (gO.of (s2 _ _ xF)),_,_,rfl,⟨by omega,by omega,by omega,by omega⟩,?_⟩
  rw[show((rv.length:Int)-((i:Int)+1)).toNat=rv.length-(i+1) by omega]
  let Jv:=λ(m:Nat) (Z:St) (H3:Hp)=>∃(v3 v4 v5 v6:Option V),Z=[rr b,rr e,ri i,v3,v4,v5,v6]/\gs H H3
  refine jX Jv ⟨v3,v4,v5,v6,rfl,s2⟩ ?_ ?_
  ·rintro m Z H3 hm ⟨v3,v4,v5,v6,rfl,s3⟩
   rw[show(i:Int)+1+(m:Int)=((i+1+m:Nat):Int) by omega]
   have hj:i+1+m<row.length:=by omega
   obtain⟨l,hl⟩:∃l,row[i]?=some l:=⟨_,TH (by omega)⟩
   obtain⟨k,hk⟩:∃k,row[i+1+m]?=some k:=⟨_,TH hj⟩
   obtain⟨x,hx,tx⟩:=iY Ce hl
   obtain⟨y,hy,ty⟩:=iY Ce hk
   have up:∀{H4:Hp},gs H H4->∀{v:V} {l:Ln},ox H v l->ox H4 v l:=λ{H4} s {v l} ⟨t,e,h⟩=>⟨t,e,s _ _ h⟩
   refine⟨_,rfl,b,_,_,_,rfl,rfl,gO.of (s3 _ _ hb),gJ (j:=0) rfl rfl,_,rfl,r,_,_,_,rfl,rfl,gO.of (s3 _ _ xF),gJ rfl hx,?_⟩
   refine⟨_,rfl,b,_,_,_,rfl,rfl,gO.of (s3 _ _ hb),gJ (j:=0) rfl rfl,_,rfl,r,_,_,_,rfl,rfl,gO.of (s3 _ _ xF),gJ rfl hy,?_⟩
   refine⟨_,rfl,_,rfl,L2.jS,λt ht=>?_⟩
   have w4:=(gs.refl H3).new (o:=.tup [.int i,.int (i+1+m:Nat)]) ht
   have u4:(upd H3 t (.tup [.int i,.int (i+1+m:Nat)])) t=some (.tup [.int i,.int (i+1+m:Nat)]):=b_
   generalize upd H3 t (.tup [.int i,.int (i+1+m:Nat)])=H4 at w4 u4
   have s4:=s3.trans w4
   obtain⟨g,LR,UP⟩:=N1 (K:=K) (Paired.jh YU λq v ⟨a,e,h⟩=>⟨a,e,s4 _ _ h⟩) (show j_ H4 (i,i+1+m) (.ref t) from ⟨t,rfl,u4⟩)
   have V8:Paired (ox H4) LD oy:=Paired.jh US λv l=>up s4
   refine⟨_,rfl,b,_,_,_,rfl,rfl,gO.of (s4 _ _ hb),gJ (j:=1) rfl rfl,c,cv,g,rfl,gO.of (s4 _ _ QF),LR,_,rfl,kF (λhq=>?_) (λhq=>?_)⟩
   rotate_left
   ·exact⟨_,_,_,_,rfl,s4⟩
   have hq:(!cv.any g)=true:=hq
   have hq:(i,i+1+m)∉qs:=λz=>by rw[UP.mpr z] at hq;cases hq
   obtain⟨gx,kx,hx1,hx2⟩:=HE (K:=K) V8 (up s4 tx)
   obtain⟨gy,ky,hy1,hy2⟩:=HE (K:=K) V8 (up s4 ty)
   have V9:=s4 _ _ he
   have RE:=s4 _ _ YX
   refine⟨_,rfl,_,rfl,e,_,_,_,rfl,rfl,gO.of V9,gJ (j:=0) rfl rfl,r',LD,gx,rfl,gO.of RE,hx1,_,rfl,kF (λhX=>?_) (λhX=>?_)⟩
   rotate_left
   ·exact⟨_,_,_,_,rfl,s4⟩
   refine⟨_,rfl,_,rfl,e,_,_,_,rfl,rfl,gO.of V9,gJ (j:=0) rfl rfl,r',LD,gy,rfl,gO.of RE,hy1,_,rfl,kF (λhY=>?_) (λhY=>?_)⟩
   rotate_left
   ·exact⟨_,_,_,_,rfl,s4⟩
   have at_:∀{z:Ln} {gz:V->Bool},(∀v a,ox H4 v a->gz v=decide (tr a=tr z))->tr z∈oy.map tr->∃(a:Nat)(l':Ln),oy[a]?=some l'/\tr l'=tr z/\a<1000/\(∃v,LD[a]?=some v/\gz v=true)/\∀(n:Nat) v,n<a->LD[n]?=some v->gz v=false:=λ{z gz} kz hz=>by
    obtain⟨a,l',ha,ea,fa⟩:=Lj hz
    have VO:=(List.getElem?_eq_some_iff.mp ha).1
    obtain⟨v,hv,tv⟩:=iY V8 ha
    refine⟨a,l',ha,ea,by omega,⟨v,hv,(kz v l' tv).trans (WV ea)⟩,λn u hn hu=>?_⟩
    obtain⟨l2,h2,t2⟩:=ik V8 hu
    exact(kz u l2 t2).trans (ZW (fa n l2 hn h2))
   obtain⟨a0,la,VT,Yj,la0,fa0,na0⟩:=at_ kx (hx2.mp hX)
   obtain⟨b0,lb,LW,eb0,lb0,fb0,nb0⟩:=at_ ky (hy2.mp hY)
   obtain⟨GD,hnq⟩:=ord i (i+1+m) a0 b0 l k la lb (by omega) hl hk hq VT LW Yj eb0
   refine⟨_,rfl,e,_,_,_,rfl,rfl,gO.of V9,gJ (j:=0) rfl rfl,.inl ⟨rfl,_,gO.of RE⟩,_,rfl,r',LD,x,a0,gx,rfl,rfl,RE,la0,hx1,fa0,na0,_,rfl,e,_,_,_,rfl,rfl,gO.of V9,gJ (j:=0) rfl rfl,.inl ⟨rfl,_,gO.of RE⟩,_,rfl,r',LD,y,b0,gy,rfl,rfl,RE,lb0,hy1,fb0,nb0,L2.jS,λt2 TK=>?_⟩
   have w5:=(gs.refl H4).new (o:=.tup [.int (a0:Nat),.int (b0:Nat)]) TK
   have u5:(upd H4 t2 (.tup [.int (a0:Nat),.int (b0:Nat)])) t2=some (.tup [.int (a0:Nat),.int (b0:Nat)]):=b_
   generalize upd H4 t2 (.tup [.int (a0:Nat),.int (b0:Nat)])=H5 at w5 u5
   have s5:=s4.trans w5
   obtain⟨g2,hg3,hg4⟩:=N1 (K:=K) (Paired.jh YZ λq v ⟨a,e,h⟩=>⟨a,e,s5 _ _ h⟩) (show j_ H5 (a0,b0) (.ref t2) from ⟨t2,rfl,u5⟩)
   refine⟨_,rfl,t2,_,_,_,rfl,rfl,pf.of u5,gJ (j:=0) rfl rfl,_,rfl,t2,_,_,_,rfl,rfl,pf.of u5,gJ (j:=1) rfl rfl,_,_,rfl,rfl,_,rfl,kF (λh=>absurd (aah h) (by omega)) (λ_=>?_)⟩
   exact⟨_,rfl,_,rfl,e,_,_,_,rfl,rfl,gO.of (s5 _ _ he),gJ (j:=1) rfl rfl,c',cv',g2,rfl,gO.of (s5 _ _ YY),hg3,_,rfl,kF (λh=>absurd (hg4.mp h) hnq) (λ_=>⟨_,_,_,_,rfl,s5⟩)⟩
  ·rintro Z H3 ⟨v3,v4,v5,v6,rfl,s3⟩
   exact⟨_,_,_,_,_,rfl,s3⟩
 ·rintro Z H2 ⟨v2,v3,v4,v5,v6,rfl,s2⟩
  exact q H2 s2
def LT(H H':Hp):Prop:=(∀a vs,H a=some (.lst vs)->H' a=some (.lst vs))/\∀a vs,H a=some (.tup vs)->H' a=some (.tup vs)
theorem LT.of{H H':Hp}(s:gs H H'):LT H H':=⟨λa vs h=>s _ _ h,λa vs h=>s _ _ h⟩
theorem LT.trans{H H' H2:Hp}(a:LT H H')(b:LT H' H2):LT H H2:=⟨λx vs h=>b.1 _ _ (a.1 _ _ h),λx vs h=>b.2 _ _ (a.2 _ _ h)⟩
theorem LT.x{A:Ad}{H H':Hp}{d:Addr}{D:Dk}{W:Addr->Prop}(X:ip A H d D W)(s:o6 W H H'):LT H H':=⟨λa vs h=>s _ _ h (X.lst h),λa vs h=>s _ _ h (X.tup h)⟩
theorem nM.lt{H H':Hp}{r:Addr}{row:List Ln}(h:nM H r row)(s:LT H H'):nM H' r row:=by
 obtain⟨rv,h2,h3⟩:=h
 exact⟨rv,s.1 _ _ h2,Paired.jh h3 λv l ⟨t,e,h⟩=>⟨t,e,s.2 _ _ h⟩⟩
theorem Mn.lt{H H':Hp}{v:V}{row:List Ln}{qs:List (Nat×Nat)}(m:Mn H v row qs)(s:LT H H'):Mn H' v row qs:=by
 obtain⟨u,r,c,vs,e,h1,h2,h4,h5⟩:=m
 exact⟨u,r,c,vs,e,s.1 _ _ h1,h2.lt s,s.1 _ _ h4,Paired.jh h5 λq v ⟨t,e,h⟩=>⟨t,e,s.2 _ _ h⟩⟩
theorem One.mn{H0 H:Hp}{row:List Ln}{qu:List (Nat×Nat)}{v:V}(o:One H0 H row qu v):Mn H v row qu:=by
 obtain⟨u,r,c,qs,e,h1,h2,h3,h4,h5,h6,h7⟩:=o
 exact⟨u,r,c,qs,e,h4,h5,h6,h7⟩
noncomputable def Vg(l:Ln):T3:=(l.nm.1,(l.nm.2:Int),l.tx)
noncomputable def tD(x:T3):Dv:=.t [.s x.1,.i x.2.1,.s x.2.2]
theorem HF{H:Hp}{a:Addr}{zs:List V}{ts:List T3}(h:H a=some (.lst zs))(p:Paired (S3 H) zs ts):Rep H 2 (.ref a) (.l (ts.map tD)):=by
 refine Rep.B7 h p λv x ⟨t,e,hx⟩=>?_
 rw[e]
 refine .t hx rfl λj u d hu hd=>?_
 match j with
 | 0=>cases hu;cases hd;exact .s
 | 1=>cases hu;cases hd;exact .i
 | 2=>cases hu;cases hd;exact .s
 | j+3=>simp at hu
theorem uP{H:Hp}:∀{vs:List V} {row:List Ln},Paired (ox H) vs row->Paired (S3 H) vs (row.map Vg)
 | _,_,.nil=>.nil
 | _,_,.cons f p=>.cons f (uP p)
theorem Qi{l:List Str}(nd:l.Nodup){i j:Nat}{a:Str}(hi:l[i]?=some a)(hj:l[j]?=some a):i=j:=
 (abJ (List.getElem?_eq_some_iff.mp hi).1 nd).mp (hi.trans hj.symm)
def HG(K:Qqy):Sp:=λvs H Q _=>∃(a:Addr)(ns:List Int),vs=[.ref a]/\gO K H a (ns.map V.int)/\ns.length<=63/\∀H',Q (.bl true) H'
theorem Qj{f:Addr}{fd:FuncData}(F:xR K "law" "law" Kt f fd)(T:Txt mg)(O:Ok K mg A):il P w K mg base mD 20 f fd ["script"] (HG K):=by
 have Fv:=@Nc P w K mg base A T O
 have iS:=@Hs P w K mg base A T O
 have tj:=@Nj P w K mg base A T O
 have y0:=@Fj P w K mg base A T O
 have o_:=@Bn P w K mg base A T O
 have GQ:=@Qg P w K mg base A T O
 have tm:=@xx P w K mg base A T O
 have jA:=(@Gp P w K mg base A T O).Ij
 have sX:=(@Hn P w K mg base A T O).Ij
 refine F.q_ mq λjt A0 outer s H vs Q E hr h=>?_
 obtain⟨a,ns,rfl,ha,hn,q⟩:=h
 have sz:sizeLine=16777216:=aaw
 refine⟨_,(de (k8 1 mq (oM O.BY Fv hr (a_ (pv 0) (a_ gq (a_ (gG iO (oM O.jd iS hr (a_ (pv 0) (a_ gq d_))) gq) (a_ kG d_))))))
   (de (k8 2 mq (lC (pv 1) gq))
   (de (k8 3 mq (lC (lC (pv 1) gq) (gG iO (oM O.jd iS hr (a_ (pv 0) (a_ gq d_))) gq)))
   (de (k8 4 mq (lC (lC (pv 1) gq) (gG iO (gG iG (gG iG (oM O.jd iS hr (a_ (pv 0) (a_ gq d_))) gq) (gG iO (gG jU (oM O.jd iS hr (a_ (pv 0) (a_ gq d_))) gq) gq)) gq)))
   (de (k8 5 mq (iQ (a_ (zH (pv 2) O.gP O.k9 jA hr (a_ (pv 3) d_)) (a_ (zH (pv 2) O.gP O.k9 jA hr (a_ (pv 4) d_)) d_))))
   (de (k8 6 mq (iQ (a_ (oM O.tK tj hr (a_ (pv 2) (a_ (pv 3) (a_ (lC (pv 1) gq) d_)))) (a_ (oM O.tK tj hr (a_ (pv 2) (a_ (pv 4) (a_ (lC (pv 1) gq) d_)))) d_))))
   (de (ix aar rfl (iq (lC (pv 5) gq)) (rF 7 mq) (f_ (h_ (zH (pv 2) O.gP O.xm sX hr (a_ (pv 3) (a_ (pv 4) (a_ (pv 7) d_)))))))
   (de (k8 8 mq (oM O.tK tj hr (a_ (pv 2) (a_ (pv 3) (a_ (lC (pv 1) gq) d_)))))
   (de (ix aar rfl (jE rfl T.kE (a_ gq d_)) (rF 9 mq) (de (k8 10 mq (iQ (a_ (lC (lC (lC (pv 6) gq) (pv 9)) gq) (a_ (lC (lC (lC (pv 6) gq) (pv 9)) gq) d_))))
   (de (ix aar rfl (iq (gG mT (pv 10) (iQ (a_ (lC (lC (pv 8) (pv 9)) gq) d_)))) (rF 11 mq) (f_ (iC (ku (kX (oM O.uq y0 hr (a_ (pv 11) d_)))) (f_ (gZ kG)) g_)))
   (de (iC ((pw_or (ku (kX (oM O.nu o_ hr (a_ (lC (lC (pv 8) (pv 9)) gq) d_)))) (pw_or1 (ij (O2 4 (by exact LM hr)) (gM AB (by rfl) T.EM PyProof.Rows.boot_sorted (a_ (lC (lC (pv 8) (pv 9)) gq) d_)) (gM AB (by rfl) T.EM PyProof.Rows.boot_sorted (a_ (oM O.EV GQ hr (a_ (pv 10) (a_ (pv 5) d_))) d_)) (iP _)))).pt) (f_ (gZ kG)) g_)
   (f_ (ix aar rfl (jE rfl T.kE (a_ gq d_)) (rF 12 mq) (f_ (iC ((pw_or (ku (kX (oM O.nu o_ hr (a_ (lC (lC (lC (pv 6) (pv 12)) (pv 9)) gq) d_)))) (pw_or1 (ku (kX (oM O.ow tm hr (a_ (lC (lC (pv 6) (pv 12)) (pv 9)) (a_ (lC (pv 8) (pv 9)) d_))))))).pt) (f_ (gZ kG)) g_))))))))
   (f_ (gZ kG))))))))))),?_⟩
 refine WT ?_;intro _ _ _ _ _ _ _ _ _
 have b7:=mod_lt (cellAt ns 4) 17 (by decide)
 obtain⟨n,Ol⟩:∃n:Nat,cellAt ns 4%17=(n:Int):=⟨_,(ab0 b7.1).symm⟩
 refine⟨_,rfl,_,rfl,a,ns,4,rfl,ha,by decide,_,_,rfl,rfl,(by show(0:Int)<17;decide),a,ns,6,n,false,?_,ha,by omega,by decide,by decide,by omega,λbl d ss fs D W H1 B nb=>?_⟩
 ·show[V.ref a,V.int 6,V.int (cellAt ns 4%17),V.bl false]=_
  rw[Ol]
 have n7:n<=16:=by omega
 clear b7 Ol
 have nb:=nb rfl
 have I:=B.inv
 have X1:=B.W_
 have sm:=B.sz.small (by omega)
 have Oj:=qT ha B.same
 have UT:∀{Ha Hb:Hp},gs H Ha->o6 W Ha Hb->gs H Hb:=λs s' b o e=>s' b o (s _ _ e) λhb=>by rw[B.own b hb] at e;cases e
 refine⟨_,rfl,bl,_,_,_,rfl,rfl,gO.of B.at_,gJ (j:=0) rfl rfl,?_⟩
 have bc:=mod_lt (cellAt ns 5) 3 (by decide)
 obtain⟨ci,hci⟩:∃ci:Nat,cellAt ns 5%3=(ci:Int):=⟨_,(ab0 bc.1).symm⟩
 have bo:=mod_lt (cellAt ns 5+1+cellAt ns 5/3%2) 3 (by decide)
 obtain⟨cj,VN⟩:∃cj:Nat,(cellAt ns 5+1+cellAt ns 5/3%2)%3=(cj:Int):=⟨_,(ab0 bo.1).symm⟩
 have hc3:ci<(uY ns).length:=by show ci<3;omega
 have hj3:cj<(uY ns).length:=by show cj<3;omega
 have hcn:ci≠cj:=by omega
 clear bc bo
 obtain⟨st,xy⟩:∃st,(uY ns)[ci]?=some st:=⟨_,TH hc3⟩
 obtain⟨ot,Y0⟩:∃ot,(uY ns)[cj]?=some ot:=⟨_,TH hj3⟩
 have qo:ot≠st:=λe=>hcn (Qi (B6 ns) xy (e▸Y0))
 have UU:=WW xy
 have UW:=WW Y0
 have hs:st∈D.stores:=by rw[B.stores];exact UU
 have ho:ot∈D.stores:=by rw[B.stores];exact UW
 have fst:=(wo st UU).Ay
 have Y1:=(wo ot UW).Ay
 refine⟨_,rfl,bl,_,_,_,rfl,rfl,gO.of B.at_,gJ (j:=1) rfl rfl,_,rfl,a,ns,5,rfl,Oj,by decide,_,_,rfl,rfl,(by show(0:Int)<3;decide),ss,_,_,_,rfl,rfl,gO.of B.st,gJ hci (mw xy),?_⟩
 refine⟨_,rfl,bl,_,_,_,rfl,rfl,gO.of B.at_,gJ (j:=1) rfl rfl,_,rfl,a,ns,5,rfl,Oj,by decide,_,_,rfl,rfl,_,rfl,a,ns,5,rfl,Oj,by decide,_,_,rfl,rfl,⟨by decide,by decide⟩,_,_,rfl,rfl,(by show(0:Int)<2;decide),_,_,rfl,rfl,_,_,rfl,rfl,(by show(0:Int)<3;decide),ss,_,_,_,rfl,rfl,gO.of B.st,gJ VN (mw Y0),?_⟩
 clear hci VN hcn hc3 hj3
 obtain⟨U,y⟩:=id X1
 refine⟨_,rfl,d,U.dx,_,rfl,y.hd,qR,_,rfl,d,D,W,st,rfl,X1,fst,sm.many,λh=>absurd hs h,λ_ h0 V6=>?_⟩
 have s2:gs H1 (upd H1 h0 (.lst (gw (D.has st)))):=(gs.refl H1).new V6
 have u2:(upd H1 h0 (.lst (gw (D.has st)))) h0=some (.lst (gw (D.has st))):=b_
 generalize upd H1 h0 (.lst (gw (D.has st)))=H2 at s2 u2
 refine⟨_,rfl,d,U.dx,_,rfl,s2 _ _ y.hd,qR,_,rfl,d,D,W,ot,rfl,X1.same s2,Y1,sm.many,λh=>absurd ho h,λ_ h1 LV=>⟨L2.jS,λhv Y2=>?_⟩⟩
 have t3:gs H2 (upd H2 h1 (.lst (gw (D.has ot)))):=(gs.refl H2).new LV
 have u3:(upd H2 h1 (.lst (gw (D.has ot)))) h1=some (.lst (gw (D.has ot))):=b_
 generalize upd H2 h1 (.lst (gw (D.has ot)))=H3 at t3 u3 Y2
 have t4:gs H3 (upd H3 hv (.lst [.ref h0,.ref h1])):=(gs.refl H3).new Y2
 have u4:(upd H3 hv (.lst [.ref h0,.ref h1])) hv=some (.lst [.ref h0,.ref h1]):=b_
 generalize upd H3 hv (.lst [.ref h0,.ref h1])=H4 at t4 u4
 have s4:=(s2.trans t3).trans t4
 have h04:=(t3.trans t4) _ _ u2
 have RF:=t4 _ _ u3
 refine⟨_,rfl,_,rfl,_,rfl,bl,_,_,_,rfl,rfl,gO.of (s4 _ _ B.at_),gJ (j:=2) rfl rfl,d,fs,D,W,st,tQ ns,rfl,X1.same s4,I,sm,hs,fst,s4 _ _ B.fl,(by show 2<=1000;decide),λp0 Ha Jp sa rH hv0=>?_⟩
 have ta:gs Ha (upd Ha p0 (.lst Jp)):=(gs.refl Ha).new rH
 have ua:(upd Ha p0 (.lst Jp)) p0=some (.lst Jp):=b_
 generalize upd Ha p0 (.lst Jp)=Hb at ta ua
 have s5:=s4.trans (sa.trans ta)
 refine⟨_,rfl,_,rfl,_,rfl,bl,_,_,_,rfl,rfl,gO.of (s5 _ _ B.at_),gJ (j:=2) rfl rfl,d,fs,D,W,ot,tQ ns,rfl,X1.same s5,I,sm,ho,Y1,s5 _ _ B.fl,(by show 2<=1000;decide),λp1 Hc Q1 sc Lu hv1=>⟨L2.jS,λbf Y3=>?_⟩⟩
 have tc:gs Hc (upd Hc p1 (.lst Q1)):=(gs.refl Hc).new Lu
 have uc:(upd Hc p1 (.lst Q1)) p1=some (.lst Q1):=b_
 generalize upd Hc p1 (.lst Q1)=Hd at tc uc Y3
 have td:gs Hd (upd Hd bf (.lst [.ref p0,.ref p1])):=(gs.refl Hd).new Y3
 have ud:(upd Hd bf (.lst [.ref p0,.ref p1])) bf=some (.lst [.ref p0,.ref p1]):=b_
 generalize upd Hd bf (.lst [.ref p0,.ref p1])=H6 at td ud
 have UX:=(sc.trans tc).trans td
 have s6:=s5.trans UX
 have V_:=(sa.trans ta).trans UX
 have h06:=V_ _ _ h04
 have Q2:=V_ _ _ RF
 have hv6:=V_ _ _ u4
 have p06:=UX _ _ ua
 have p16:=td _ _ uc
 have m0:Paired (λv f=>Mn H6 v (D.row st f) (D.oz st f)) Jp (tQ ns):=Paired.jh hv0 λv f m=>m.mn.lt (.of (ta.trans UX))
 have m1:Paired (λv f=>Mn H6 v (D.row ot f) (D.oz ot f)) Q1 (tQ ns):=Paired.jh hv1 λv f m=>m.mn.lt (.of (tc.trans td))
 have X6:=X1.same s6
 have kb6:=s6 _ _ B.at_
 have kf6:=s6 _ _ B.fl
 have Yv:=B.same.trans s6
 have HL:∀x∈D.names,kW x:=λx hx=>by
  obtain⟨j,_,rfl⟩:=B.names x hx
  exact(qm _ _).Ay
 have hsz:=B.sz
 clear X1 ta ua tc uc td UX V_ t3 t4 sa sc hv0 hv1 u2 u3 u4 h04 RF s2 s4 s5 y V6 LV rH Lu Y2 Y3
 dsimp only [nE];refine LN ?_;intro _
 let Jv:=λ(i:Nat) (Z:St) (H7:Hp)=>∃(v7:Option V)(D':Dk),Z=[rr a,rr bl,rr d,rs st,rs ot,rr hv,rr bf,v7,none,none,none,none,none]/\gs H H7/\PK.LT H6 H7/\ip A H7 d D' W/\Tk D D' st ot ((D.has ot).take i)
 refine⟨_,rfl,hv,_,_,_,rfl,rfl,gO.of hv6,gJ (j:=1) rfl rfl,h1,rfl,⟨_,gO.of Q2⟩,iV (K:=K) (a:=h1) (xs:=gw (D.has ot)) Jv ⟨none,D,rfl,Yv,.of (gs.refl _),X6,I,rfl,rfl,rfl,rfl,λy h=>h,λy h=>(by cases h),λy h=>.inl h⟩ (by rintro _ _ _ _ ⟨_,_,_,_,lt,_⟩;exact gO.of (lt.1 _ _ Q2)) ?_ ?_⟩
 ·rintro i v Z H7 hvx ⟨v7,D',rfl,s7,UY,X7,T7⟩
  obtain⟨x,hx,rfl⟩:=mx hvx
  have TU:=aal.mp (WW hx)
  have Rw:x∈D.held ot:=aah TU.2
  have Y4:st∈D'.stores:=by rw[T7.stores];exact hs
  have pI:ot∈D'.stores:=by rw[T7.stores];exact ho
  obtain⟨U7,y7⟩:=id X7
  refine⟨_,rfl,d,U7.dx,_,rfl,y7.hd,Hl,_,rfl,_,rfl,_,rfl,d,D',W,st,ot,x,rfl,X7,T7.inv,by rw[T7.made];exact sm.many,fst,Y1,HL x TU.1,λh=>absurd Y4 h,λ_ h=>absurd pI h,λ_ _ h=>absurd (by rw[T7.other];exact Rw) h,λ_ _ _ p H8 H9 s8 hp hp9 X9 w9=>?_⟩
  have Y5:=s8.new (o:=.lst (gw (D'.nO st x))) hp
  refine⟨_,D'.take st x,rfl,UT (s7.trans Y5) w9,UY.trans ((LT.of Y5).trans (LT.x (X7.same Y5) w9)),X9,?_⟩
  rw[take_snoc hx]
  exact T7.step I hs ho qo Rw
 rintro Z H7 ⟨v7,D',rfl,s7,UY,X7,T7⟩
 rw[Ob,aaq] at T7
 have G:=T7.mg I ho
 have I':=T7.inv
 have z':Sz n D':=⟨by rw[T7.made];exact hsz.many,by rw[T7.made];exact hsz.iE,by rw[T7.made];exact hsz.jx⟩
 have Y4:st∈D'.stores:=by rw[T7.stores];exact hs
 refine⟨_,rfl,_,rfl,_,rfl,bl,_,_,_,rfl,rfl,gO.of (UY.1 _ _ kb6),gJ (j:=2) rfl rfl,d,fs,D',W,st,tQ ns,rfl,X7,I',z'.small (by omega),Y4,fst,UY.1 _ _ kf6,(by show 2<=1000;decide),λpb H8 UZ s8 hpb hvb=>?_⟩
 have t9:gs H8 (upd H8 pb (.lst UZ)):=(gs.refl H8).new hpb
 have U0:(upd H8 pb (.lst UZ)) pb=some (.lst UZ):=b_
 generalize upd H8 pb (.lst UZ)=H9 at t9 U0
 have mb:Paired (λv f=>Mn H9 v (D'.row st f) (D'.oz st f)) UZ (tQ ns):=Paired.jh hvb λv f m=>m.mn.lt (.of t9)
 have Om:=UY.trans (.of (s8.trans t9))
 have m0:Paired (λv f=>Mn H9 v (D.row st f) (D.oz st f)) Jp (tQ ns):=Paired.jh m0 λv f m=>m.lt Om
 have m1:Paired (λv f=>Mn H9 v (D.row ot f) (D.oz ot f)) Q1 (tQ ns):=Paired.jh m1 λv f m=>m.lt Om
 have h09:=Om.1 _ _ h06
 have U1:=Om.1 _ _ Q2
 have hv9:=Om.1 _ _ hv6
 have p09:=Om.1 _ _ p06
 have p19:=Om.1 _ _ p16
 have Wa:=Om.1 _ _ ud
 refine⟨_,rfl,by decide,by decide,?_⟩
 let Jv:=λ(i:Nat) (Z:St) (Hx:Hp)=>∃(v9 v10 v11 NG:Option V),Z=[rr a,rr bl,rr d,rs st,rs ot,rr hv,rr bf,v7,rr pb,v9,v10,v11,NG]/\gs H9 Hx
 refine jX (n:=2) Jv ⟨none,none,none,none,rfl,gs.refl _⟩ ?_ ?_
 ·rintro i Z Hx hi ⟨v9,v10,v11,NG,rfl,sx⟩
  rw[show(0:Int)+(i:Int)=(i:Int) by omega]
  obtain⟨fl,QQ⟩:∃fl,(tQ ns)[i]?=some fl:=⟨_,TH hi⟩
  obtain⟨va,hva,ma⟩:=iY m0 QQ
  obtain⟨vb,U2,mb'⟩:=iY m1 QQ
  obtain⟨vc,Wb,mc⟩:=iY mb QQ
  obtain⟨ua,ra,ca,qa,rfl,a1,a2,a3,a4⟩:=id ma
  obtain⟨ub,rb,cb,qb,rfl,b1,b2,b3,b4⟩:=id mb'
  obtain⟨uc,rc,cc,qc,rfl,c1,c2,c3,c4⟩:=id mc
  have l0:=hsz.row I st fl
  have l1:=hsz.row I ot fl
  have l2:=z'.row I' st fl
  have du:=G.due (f:=fl) I I' nb hs ho
  have un:∀l∈D.row st fl++D.row ot fl,∀l'∈D.row st fl++D.row ot fl,tr l=tr l'->l=l':=λl hl l' DW e=>by
   have key:∀l∈D.row st fl++D.row ot fl,∃t,l∈D.row t fl:=λl hl=>(ZU.mp hl).elim (λh=>⟨_,h⟩) λh=>⟨_,h⟩
   obtain⟨t,h1⟩:=key l hl
   obtain⟨t',h2⟩:=key l' DW
   exact Ld I h1 h2 (Lc e)
  refine⟨_,rfl,bf,_,_,_,rfl,rfl,gO.of (sx _ _ Wa),gJ (j:=0) rfl rfl,_,rfl,p0,_,_,_,rfl,rfl,gO.of (sx _ _ p09),gJ rfl hva,ua,_,_,_,rfl,rfl,gO.of (sx _ _ a1),gJ (j:=0) rfl rfl,_,rfl,bf,_,_,_,rfl,rfl,gO.of (sx _ _ Wa),gJ (j:=1) rfl rfl,_,rfl,p1,_,_,_,rfl,rfl,gO.of (sx _ _ p19),gJ rfl U2,ub,_,_,_,rfl,rfl,gO.of (sx _ _ b1),gJ (j:=0) rfl rfl,L2.jS,λOo Y6=>?_⟩
  have w1:gs Hx (upd Hx Oo (.lst [.ref ra,.ref rb])):=(gs.refl Hx).new Y6
  have u1:(upd Hx Oo (.lst [.ref ra,.ref rb])) Oo=some (.lst [.ref ra,.ref rb]):=b_
  generalize upd Hx Oo (.lst [.ref ra,.ref rb])=Hy at w1 u1
  have sy:=sx.trans w1
  refine⟨_,rfl,_,rfl,_,rfl,pb,_,_,_,rfl,rfl,gO.of (sy _ _ U0),gJ rfl Wb,uc,_,_,_,rfl,rfl,gO.of (sy _ _ c1),gJ (j:=0) rfl rfl,L2.jS,λl3 V7=>⟨Oo,l3,_,_,rfl,rfl,iy V7 u1,b_,(by show 3<=_;omega),λl4 hl4=>?_⟩⟩
  have w2:=((gs.refl Hy).new (o:=.lst [.ref rc]) V7).new (o:=.lst ([.ref ra,.ref rb]++[.ref rc])) hl4
  have u2:(upd (upd Hy l3 (.lst [.ref rc])) l4 (.lst ([.ref ra,.ref rb]++[.ref rc]))) l4=some (.lst ([.ref ra,.ref rb]++[.ref rc])):=b_
  generalize upd (upd Hy l3 (.lst [.ref rc])) l4 (.lst ([.ref ra,.ref rb]++[.ref rc]))=Hw at w2 u2
  have sw:=sy.trans w2
  have rows:∀(j:Nat) v,([V.ref ra,V.ref rb]++[V.ref rc])[j]?=some v->∃r row,v=.ref r/\nM H9 r row:=λj v h=>by
   match j with
   | 0=>cases h;exact⟨_,_,rfl,a2⟩
   | 1=>cases h;exact⟨_,_,rfl,b2⟩
   | 2=>cases h;exact⟨_,_,rfl,c2⟩
   | j+3=>simp at h
  refine⟨l4,rfl,⟨_,gO.of u2⟩,?_⟩
  let Jv:=λ(j:Nat) (Z:St) (Hz:Hp)=>∃(v11:Option V),Z=[rr a,rr bl,rr d,rs st,rs ot,rr hv,rr bf,v7,rr pb,ri i,rr Oo,v11,NG]/\gs Hw Hz
  refine iV (K:=K) (a:=l4) (xs:=[.ref ra,.ref rb]++[.ref rc]) Jv ⟨v11,rfl,gs.refl _⟩ (by rintro _ _ _ _ ⟨_,_,s⟩;exact gO.of (s _ _ u2)) ?_ ?_
  ·rintro j v Z Hz Xg ⟨v11,rfl,U3⟩
   obtain⟨r,row,rfl,Bs⟩:=rows j v Xg
   exact⟨_,rfl,.ref r,2,row,rfl,(Bs.same (sw.trans U3)).rep,_,rfl,jD ⟨_,rfl,U3⟩⟩
  rintro Z Hz ⟨Y7,rfl,U3⟩
  have sZ:=sw.trans U3
  have u1z:=(w2.trans U3) _ _ u1
  refine⟨_,rfl,_,rfl,pb,_,_,_,rfl,rfl,gO.of (sZ _ _ U0),gJ rfl Wb,uc,_,_,_,rfl,rfl,gO.of (sZ _ _ c1),gJ (j:=1) rfl rfl,.ref cc,2,D'.oz st fl,rfl,B8 (sZ _ _ c3) (Paired.jh c4 λq v ⟨t,e,h⟩=>⟨t,e,sZ _ _ h⟩),_,rfl,jD ?_⟩
  obtain⟨rv,e1,e2⟩:=c2.same sZ
  have hrv:=aak e2
  refine⟨_,rfl,_,rfl,pb,_,_,_,rfl,rfl,gO.of (sZ _ _ U0),gJ rfl Wb,uc,_,_,_,rfl,rfl,gO.of (sZ _ _ c1),gJ (j:=0) rfl rfl,rc,rv,(D'.row st fl).map Vg,rfl,gO.of e1,uP e2,by omega,λl5 Wc ts1 Vy q1 zI so1 _=>?_⟩
  have w5:=(gs.refl Hz).new (o:=.lst Wc) Vy
  have u5:(upd Hz l5 (.lst Wc)) l5=some (.lst Wc):=b_
  generalize upd Hz l5 (.lst Wc)=RA at w5 u5
  have GH:=sZ.trans w5
  refine⟨_,rfl,_,rfl,Oo,hv,ra,rb,h0,h1,D.row st fl,D.row ot fl,D.has st,D.has ot,rfl,w5 _ _ u1z,a2.same GH,b2.same GH,GH _ _ hv9,GH _ _ h09,GH _ _ U1,by omega,by omega,un,λpd VX vsd sd QD pdd=>?_⟩
  have hdl:=aak pdd
  have hdl2:=du.length_eq
  refine⟨pd,vsd,(Le (D.row st fl) (D.row ot fl) (D.has st) (D.has ot)).map Vg,rfl,gO.of QD,uP pdd,by omega,λl6 Wd ts2 hl6 q2 pm2 so2 _=>?_⟩
  have w6:=(gs.refl VX).new (o:=.lst Wd) hl6
  have u6:(upd VX l6 (.lst Wd)) l6=some (.lst Wd):=b_
  generalize upd VX l6 (.lst Wd)=H12 at w6 u6
  have ets:ts1=ts2:=I_ ((zI.trans (du.map Vg)).trans pm2.symm) so1 so2
  subst ets
  have U4:=(w5.trans sd).trans w6
  refine⟨true,⟨l5,l6,rfl,rfl⟩,((HF ((sd.trans w6) _ _ u5) (Paired.jh q1 λv x ⟨t,e,h⟩=>⟨t,e,U4 _ _ h⟩)).mono (by decide)).eq ((HF u6 (Paired.jh q2 λv x ⟨t,e,h⟩=>⟨t,e,w6 _ _ h⟩)).mono (by decide)),_,rfl,jD ?_⟩
  have DX:=sZ.trans U4
  refine⟨_,rfl,by decide,by decide,?_⟩
  let Jv:=λ(k:Nat) (Z:St) (Hk:Hp)=>∃(NG:Option V),Z=[rr a,rr bl,rr d,rs st,rs ot,rr hv,rr bf,v7,rr pb,ri i,rr Oo,Y7,NG]/\gs H9 Hk
  refine jX (n:=2) Jv ⟨NG,rfl,DX⟩ ?_ ?_
  ·rintro k Z Hk hk ⟨NG,rfl,sk⟩
   rw[show(0:Int)+(k:Int)=(k:Int) by omega]
   obtain⟨pk,Y8,vk,t,Nt,hpk,hvk,mk,ht⟩:∃(pk:Addr)(Y8:List V)(vk:V)(t:Str),Cn [V.ref p0,V.ref p1] (k:Int)=some (.ref pk)/\H9 pk=some (.lst Y8)/\Y8[i]?=some vk/\Mn H9 vk (D.row t fl) (D.oz t fl)/\(t=st\/t=ot):=by
    rcases(by omega:k=0\/k=1) with rfl|rfl
    ·exact⟨p0,Jp,_,st,gJ (j:=0) rfl rfl,p09,hva,ma,.inl rfl⟩
    ·exact⟨p1,Q1,_,ot,gJ (j:=1) rfl rfl,p19,U2,mb',.inr rfl⟩
   obtain⟨uk,rk,ck,qk,rfl,k1,k2,k3,k4⟩:=id mk
   have lk:=hsz.row I t fl
   refine⟨_,rfl,_,rfl,bf,_,_,_,rfl,rfl,gO.of (sk _ _ Wa),Nt,_,rfl,pk,_,_,_,rfl,rfl,gO.of (sk _ _ hpk),gJ rfl hvk,uk,_,_,_,rfl,rfl,gO.of (sk _ _ k1),gJ (j:=1) rfl rfl,.ref ck,2,D.oz t fl,rfl,B8 (sk _ _ k3) (Paired.jh k4 λq v ⟨t,e,h⟩=>⟨t,e,sk _ _ h⟩),_,rfl,jD ?_⟩
   exact⟨_,rfl,_,rfl,bf,_,_,_,rfl,rfl,gO.of (sk _ _ Wa),Nt,_,rfl,pk,_,_,_,rfl,rfl,gO.of (sk _ _ hpk),gJ rfl hvk,_,rfl,_,rfl,pb,_,_,_,rfl,rfl,gO.of (sk _ _ U0),gJ rfl Wb,.ref uk,.ref uc,D.row t fl,D'.row st fl,D.oz t fl,D'.oz st fl,rfl,mk.lt (.of sk),mc.lt (.of sk),by omega,by omega,λi j a b l m l' m'=>G.order I I' ht,λH' s'=>⟨_,rfl,jD ⟨_,rfl,sk.trans s'⟩⟩⟩
  ·rintro Z Hk ⟨NG,rfl,sk⟩
   exact⟨_,_,_,_,rfl,sk⟩
 ·rintro Z Hx ⟨v9,v10,v11,NG,rfl,sx⟩
  exact q Hx
end
end PK
namespace TW
open PySem PySem.W L2 PK
noncomputable section
noncomputable abbrev S:=Str.ofString
noncomputable abbrev ob:=Obj.mk
noncomputable abbrev v(x:String)(t:Nat):Value:=.str (S x) t
noncomputable abbrev r:=Value.ref
noncomputable abbrev vi:=Value.int
noncomputable abbrev i(n:Int):=Value.int n 0
noncomputable abbrev vn:=Value.none
noncomputable abbrev w:=Value.type
noncomputable abbrev b:=Value.builtin
noncomputable abbrev vl:=Value.bool
noncomputable abbrev cl:=ClassData.mk
noncomputable abbrev k:=@some Value
noncomputable abbrev d(P:Params)(x:String)(t:Nat)(y:Value):DictEntry:=.mk (PyData.keyHash P (S x)) (v x t) y
noncomputable abbrev x:=top
noncomputable abbrev y(i j:Nat):=inClass (top i) j
noncomputable abbrev n:=BT.node
noncomputable abbrev z:=BT.nil
noncomputable abbrev f(o:Obj):BT:=n o z z
noncomputable abbrev of(c:String)(l:List Value):Obj:=ob (w c) none (.fields l.toArray) #[]
noncomputable abbrev tp(l:List Value):Obj:=ob (w "tuple") none (.seq l.toArray 0) #[]
noncomputable abbrev fl(l:List Value):Obj:=ob vn none (.fields l.toArray) #[]
noncomputable abbrev l3(l:List (Int×Int×Addr)):Obj:=fl (l.flatMap λ(a,b,c)=>[i a,i b,r c])
noncomputable abbrev fd(n q:Str)(st:Stmt)(g:Addr)(c:List (Str×Addr))(d kd doc pm:Value)(an:Option Addr)(co ct:Value)(b:Addr):FuncData:=⟨n,q,oI st,.stmts (lh st),gr st,g,c,d,kd,doc,pm,an,co,ct,b⟩
noncomputable abbrev fn(a b:String)(st:Stmt)(m:String)(t:Nat)(c:Addr):Obj:=ob (w "function") none (.func (fd (S a) (S b) st 3 [] vn vn vn (v m t) none (r c) vn 0)) #[]
noncomputable abbrev fv(a b:String)(st:Stmt):Obj:=ob vn none (.func (fd (S a) (S b) st 0 [] vn vn vn vn none vn vn 0)) #[]
noncomputable abbrev dt(l:List DictEntry)(c:Nat):Obj:=ob (w "dict") none (.dict l.toArray c) #[]
noncomputable abbrev fr(l:List (Option Value)):Obj:=ob (w "frame") none .plain l.toArray
noncomputable abbrev ty(c:ClassData)(l:List (Option Value)):Obj:=ob (w "type") none (.cls c) l.toArray
noncomputable abbrev o0:Addr->Value|0=>vn|a+1=>r (a+1)
noncomputable abbrev co(a b:String)(t:Nat)(l p q:Int)(c:Addr)(g:Int)(ys:List Addr)(u:Nat):Obj:=of "code" ([v a t,v b (t+1),v "/claim/cut.py" (t+2),i l,i p,i 0,i 0,i q,r c,vl true,i g]++ys.map o0++[i u,i l,v "/claim/cut.py" (u+1)])
noncomputable def hW(P:Params):List DictEntry:=[(d P "__doc__" 166 vn),(d P "__package__" 167 vn),(d P "__loader__" 168 (b "__main__.__loader__#opaque")),(d P "__spec__" 169 vn),(d P "__annotations__" 170 (r 6)),(d P "__builtins__" 171 (r 4)),(d P "__file__" 173 (v "/claim/cut.py" 172)),(d P "__cached__" 174 vn),(d P "_wall" 193 (r 21)),(d P "counts_with" 206 (r 28)),(d P "most_pairs" 212 (r 33)),(d P "place_from" 222 (r 40)),(d P "kept" 235 (r 47)),(d P "PatchError" 255 (r 57))]
def hX(P:Params):List DictEntry:=hW P++[(d P "BadName" 271 (r 70))]
def hY(P:Params):List DictEntry:=hX P++[(d P "NameTaken" 287 (r 82))]
def hZ(P:Params):List DictEntry:=hY P++[(d P "NoStore" 303 (r 94))]
def h0(P:Params):List DictEntry:=hZ P++[(d P "NoPatch" 319 (r 106))]
def h1(P:Params):List DictEntry:=h0 P++[(d P "NoLine" 335 (r 118))]
def h2(P:Params):List DictEntry:=h1 P++[(d P "Unsettled" 351 (r 130))]
def h3(P:Params):List DictEntry:=h2 P++[(d P "Same" 367 (r 142))]
def h4(P:Params):List DictEntry:=h3 P++[(d P "Leant" 383 (r 154))]
def h5(P:Params):List DictEntry:=h4 P++[(d P "Line" 420 (r 173))]
def h6(P:Params):List DictEntry:=h5 P++[(d P "Patch" 457 (r 194)),(d P "lines_named_by" 463 (r 203)),(d P "leans_straight_on" 469 (r 208)),(d P "live_patches" 479 (r 215)),(d P "lines_put" 489 (r 222)),(d P "standing_lines" 495 (r 227)),(d P "files_with_lines" 501 (r 232))]
def h7(P:Params):List DictEntry:=h6 P++[(d P "straight_ahead" 510 (r 239)),(d P "joined" 520 (r 246)),(d P "all_ahead" 526 (r 251)),(d P "first_free" 534 (r 258)),(d P "row_of" 540 (r 263))]
def h8(P:Params):List DictEntry:=h7 P++[(d P "Sight" 604 (r 308)),(d P "NAME_SIGNS" 608 (v "abcdefghijklmnopqrstuvwxyz0123456789" 607)),(d P "LONGEST_NAME" 610 (vi 12 609))]
def h9(P:Params):List DictEntry:=h8 P++[(d P "check_name" 618 (r 319)),(d P "check_places" 628 (r 326)),(d P "kept_behind" 638 (r 333)),(d P "new_lines" 652 (r 340)),(d P "changing_patch" 658 (r 345))]
def ia(P:Params):List DictEntry:=h9 P++[(d P "Desk" 861 (r 502))]
def ib(P:Params):List DictEntry:=ia P++[(d P "_law_cell_at" 871 (r 513)),(d P "_law_draw" 881 (r 520)),(d P "_law_name" 895 (r 527)),(d P "_law_text" 901 (r 532)),(d P "_law_edit" 915 (r 539)),(d P "_law_deed" 921 (r 544)),(d P "_law_desk" 927 (r 549)),(d P "_law_whole" 934 (r 556)),(d P "_law_row_form" 942 (r 563)),(d P "_law_pairs_form" 950 (r 570)),(d P "_law_seen" 956 (r 575)),(d P "_law_due" 968 (r 582))]
def ic(P:Params):List DictEntry:=ib P++[(d P "_law_kept_in_order" 981 (r 589)),(d P "law" 1000 (r 596))]
def aa:Obj:=tp []
def ab:Obj:=fl []
def ac:Obj:=of "builtin_function_or_method" [(b "type.__prepare__"),(w "type")]
def ad:Obj:=tp [(r 57)]
def ae:Obj:=of "code" [(v "<module>" 182),(v "<module>" 183),(v "/claim/cut.py" 184),(i 1),(i 0),(i 0),(i 0),(i 0),(r 11),(vl false),(i 181),(r 12),vn,vn,vn,vn,(i 185),(i 1),(v "/claim/cut.py" 186)]
def af:Obj:=fr [(k (r 13)),(k (r 3)),(k (r 3)),none,(k (v "__main__" 164)),none,(k (r 0))]
noncomputable def ag:Obj:=fn "kept" "kept" (x 5) "patchkin.differ" 194 46
def ai:Obj:=co "place_from" "place_from" 213 18 3 3 34 181 [35,0,36,37,38] 220
def aj:Obj:=co "counts_with" "counts_with" 196 5 3 3 22 181 [23,0,24,25,26] 204
def al:Obj:=tp [(v "old" 226),(v "new" 227),(v "table" 228),(v "pairs" 229),(v "start" 230),(v "first" 231),(v "second" 232)]
def am:Obj:=tp [(v "k" 190)]
def an:Obj:=fn "most_pairs" "most_pairs" (x 3) "patchkin.differ" 194 32
def ao:Obj:=fn "_wall" "_wall" (x 0) "__main__" 164 20
def ap:Obj:=co "most_pairs" "most_pairs" 207 13 2 3 29 181 [30,0,0,0,31] 210
def aq:Obj:=tp [(w "ValueError")]
def ar:Obj:=tp [(v "text" 199),(v "new" 200),(v "below" 201),(v "counts" 202),(v "second" 203)]
def au:Obj:=fn "place_from" "place_from" (x 4) "patchkin.differ" 194 39
def av(P:Params):Obj:=dt [(d P "__module__" 245 (v "patchkin.errors" 236)),(d P "__firstlineno__" 249 (vi 34 248)),(d P "__static_attributes__" 250 (r 55)),(d P "__weakref__" 252 (r 58)),(d P "__doc__" 253 vn)] 3
def aw:Obj:=co "_wall" "_wall" 187 1 1 3 15 181 [16,0,17,18,19] 191
def ax:Obj:=tp [(v "texts" 216),(v "text" 217),(v "start" 218),(v "place" 219)]
def ay:Obj:=fn "counts_with" "counts_with" (x 2) "patchkin.differ" 194 27
def az:Obj:=of "getset_descriptor" [(v "__weakref__" 251),(r 57),(b "ExceptionGroup.__weakref__"),vn]
noncomputable def aA:Obj:=co "kept" "kept" 223 23 2 3 41 181 [42,0,43,44,45] 233
def aB:Obj:=fv "most_pairs" "most_pairs" (x 3)
def aC:Obj:=fv "_wall" "_wall" (x 0)
def aD:Obj:=of "super" [(r 57),(r 57),(r 57)]
def aE(P:Params):Obj:=dt [(d P "__module__" 263 (v "patchkin.errors" 236)),(d P "__firstlineno__" 267 (vi 36 266)),(d P "__static_attributes__" 268 (r 68)),(d P "__doc__" 269 vn)] 2
def aF:Obj:=of "code" [(v "PatchError" 240),(v "PatchError" 241),(v "/claim/cut.py" 242),(i 34),(i 0),(i 0),(i 0),(i 0),(r 51),(vl false),(i 181),(r 52),vn,vn,vn,vn,(i 243),(i 34),(v "/claim/cut.py" 244)]
noncomputable def aG:Obj:=fv "kept" "kept" (x 5)
def aH:Obj:=of "builtin_function_or_method" [(b "object.__init_subclass__"),(r 57)]
def aI(P:Params):Obj:=dt [(d P "__module__" 245 (v "patchkin.errors" 236)),(d P "__qualname__" 247 (v "PatchError" 246)),(d P "__firstlineno__" 249 (vi 34 248)),(d P "__static_attributes__" 250 (r 55))] 4
def aJ:Obj:=fv "counts_with" "counts_with" (x 2)
def aK:Obj:=fv "place_from" "place_from" (x 4)
def aL:Obj:=ty (cl (S "BadName") [(r 57)] [(r 70),(r 57),(w "ValueError"),(w "Exception"),(w "BaseException"),(w "object")] 69 (S "BadName") true [] [] false none false) [(k (r 61)),none,(k (v "BadName" 256)),(k (v "BadName" 264)),(k (b "ValueError.__new__")),(k (vl true))]
def aM:Obj:=fr [(k (r 53)),(k (r 3)),(k (r 50)),none,(k (v "patchkin.errors" 236)),none,(k (r 0))]
def aN(P:Params):Obj:=dt [(d P "__module__" 263 (v "patchkin.errors" 236)),(d P "__qualname__" 265 (v "BadName" 264)),(d P "__firstlineno__" 267 (vi 36 266)),(d P "__static_attributes__" 268 (r 68))] 4
def aO:Obj:=of "super" [(r 70),(r 70),(r 70)]
def aP:Obj:=fr [(k (r 66)),(k (r 3)),(k (r 63)),none,(k (v "patchkin.errors" 236)),none,(k (r 0))]
def aQ(P:Params):Obj:=dt [(d P "__module__" 279 (v "patchkin.errors" 236)),(d P "__firstlineno__" 283 (vi 38 282)),(d P "__static_attributes__" 284 (r 80)),(d P "__doc__" 285 vn)] 2
def aR:Obj:=of "builtin_function_or_method" [(b "object.__init_subclass__"),(r 70)]
def aS:Obj:=of "code" [(v "BadName" 258),(v "BadName" 259),(v "/claim/cut.py" 260),(i 36),(i 0),(i 0),(i 0),(i 0),(r 64),(vl false),(i 181),(r 65),vn,vn,vn,vn,(i 261),(i 36),(v "/claim/cut.py" 262)]
def aT:Obj:=ty (cl (S "NameTaken") [(r 57)] [(r 82),(r 57),(w "ValueError"),(w "Exception"),(w "BaseException"),(w "object")] 81 (S "NameTaken") true [] [] false none false) [(k (r 73)),none,(k (v "NameTaken" 272)),(k (v "NameTaken" 280)),(k (b "ValueError.__new__")),(k (vl true))]
def aU:Obj:=fr [(k (r 78)),(k (r 3)),(k (r 75)),none,(k (v "patchkin.errors" 236)),none,(k (r 0))]
def aV:Obj:=of "super" [(r 82),(r 82),(r 82)]
def aW(P:Params):Obj:=dt [(d P "__module__" 279 (v "patchkin.errors" 236)),(d P "__qualname__" 281 (v "NameTaken" 280)),(d P "__firstlineno__" 283 (vi 38 282)),(d P "__static_attributes__" 284 (r 80))] 4
def aX(P:Params):Obj:=dt [(d P "__module__" 295 (v "patchkin.errors" 236)),(d P "__firstlineno__" 299 (vi 40 298)),(d P "__static_attributes__" 300 (r 92)),(d P "__doc__" 301 vn)] 2
def aY:Obj:=of "builtin_function_or_method" [(b "object.__init_subclass__"),(r 82)]
def aZ:Obj:=of "code" [(v "NameTaken" 274),(v "NameTaken" 275),(v "/claim/cut.py" 276),(i 38),(i 0),(i 0),(i 0),(i 0),(r 76),(vl false),(i 181),(r 77),vn,vn,vn,vn,(i 277),(i 38),(v "/claim/cut.py" 278)]
def a0:Obj:=ty (cl (S "NoStore") [(r 57)] [(r 94),(r 57),(w "ValueError"),(w "Exception"),(w "BaseException"),(w "object")] 93 (S "NoStore") true [] [] false none false) [(k (r 85)),none,(k (v "NoStore" 288)),(k (v "NoStore" 296)),(k (b "ValueError.__new__")),(k (vl true))]
def a1:Obj:=of "super" [(r 94),(r 94),(r 94)]
def a2(P:Params):Obj:=dt [(d P "__module__" 295 (v "patchkin.errors" 236)),(d P "__qualname__" 297 (v "NoStore" 296)),(d P "__firstlineno__" 299 (vi 40 298)),(d P "__static_attributes__" 300 (r 92))] 4
def a3:Obj:=fr [(k (r 90)),(k (r 3)),(k (r 87)),none,(k (v "patchkin.errors" 236)),none,(k (r 0))]
def a4(P:Params):Obj:=dt [(d P "__module__" 311 (v "patchkin.errors" 236)),(d P "__firstlineno__" 315 (vi 42 314)),(d P "__static_attributes__" 316 (r 104)),(d P "__doc__" 317 vn)] 2
def a5:Obj:=of "builtin_function_or_method" [(b "object.__init_subclass__"),(r 94)]
def a6:Obj:=ty (cl (S "NoPatch") [(r 57)] [(r 106),(r 57),(w "ValueError"),(w "Exception"),(w "BaseException"),(w "object")] 105 (S "NoPatch") true [] [] false none false) [(k (r 97)),none,(k (v "NoPatch" 304)),(k (v "NoPatch" 312)),(k (b "ValueError.__new__")),(k (vl true))]
def a7:Obj:=of "code" [(v "NoStore" 290),(v "NoStore" 291),(v "/claim/cut.py" 292),(i 40),(i 0),(i 0),(i 0),(i 0),(r 88),(vl false),(i 181),(r 89),vn,vn,vn,vn,(i 293),(i 40),(v "/claim/cut.py" 294)]
def a8:Obj:=fr [(k (r 102)),(k (r 3)),(k (r 99)),none,(k (v "patchkin.errors" 236)),none,(k (r 0))]
def a9(P:Params):Obj:=dt [(d P "__module__" 311 (v "patchkin.errors" 236)),(d P "__qualname__" 313 (v "NoPatch" 312)),(d P "__firstlineno__" 315 (vi 42 314)),(d P "__static_attributes__" 316 (r 104))] 4
def ba:Obj:=of "super" [(r 106),(r 106),(r 106)]
def bb:Obj:=of "builtin_function_or_method" [(b "object.__init_subclass__"),(r 106)]
def bc:Obj:=of "code" [(v "NoPatch" 306),(v "NoPatch" 307),(v "/claim/cut.py" 308),(i 42),(i 0),(i 0),(i 0),(i 0),(r 100),(vl false),(i 181),(r 101),vn,vn,vn,vn,(i 309),(i 42),(v "/claim/cut.py" 310)]
def be(P:Params):Obj:=dt [(d P "__module__" 327 (v "patchkin.errors" 236)),(d P "__firstlineno__" 331 (vi 44 330)),(d P "__static_attributes__" 332 (r 116)),(d P "__doc__" 333 vn)] 2
def bf:Obj:=ty (cl (S "NoLine") [(r 57)] [(r 118),(r 57),(w "ValueError"),(w "Exception"),(w "BaseException"),(w "object")] 117 (S "NoLine") true [] [] false none false) [(k (r 109)),none,(k (v "NoLine" 320)),(k (v "NoLine" 328)),(k (b "ValueError.__new__")),(k (vl true))]
def bg(P:Params):Obj:=dt [(d P "__module__" 327 (v "patchkin.errors" 236)),(d P "__qualname__" 329 (v "NoLine" 328)),(d P "__firstlineno__" 331 (vi 44 330)),(d P "__static_attributes__" 332 (r 116))] 4
def bh:Obj:=of "super" [(r 118),(r 118),(r 118)]
def bi:Obj:=fr [(k (r 114)),(k (r 3)),(k (r 111)),none,(k (v "patchkin.errors" 236)),none,(k (r 0))]
def bj(P:Params):Obj:=dt [(d P "__module__" 343 (v "patchkin.errors" 236)),(d P "__firstlineno__" 347 (vi 46 346)),(d P "__static_attributes__" 348 (r 128)),(d P "__doc__" 349 vn)] 2
def bl:Obj:=of "builtin_function_or_method" [(b "object.__init_subclass__"),(r 118)]
def bm:Obj:=ty (cl (S "Unsettled") [(r 57)] [(r 130),(r 57),(w "ValueError"),(w "Exception"),(w "BaseException"),(w "object")] 129 (S "Unsettled") true [] [] false none false) [(k (r 121)),none,(k (v "Unsettled" 336)),(k (v "Unsettled" 344)),(k (b "ValueError.__new__")),(k (vl true))]
def bn:Obj:=of "code" [(v "NoLine" 322),(v "NoLine" 323),(v "/claim/cut.py" 324),(i 44),(i 0),(i 0),(i 0),(i 0),(r 112),(vl false),(i 181),(r 113),vn,vn,vn,vn,(i 325),(i 44),(v "/claim/cut.py" 326)]
def bo:Obj:=fr [(k (r 126)),(k (r 3)),(k (r 123)),none,(k (v "patchkin.errors" 236)),none,(k (r 0))]
def bp:Obj:=of "super" [(r 130),(r 130),(r 130)]
def bq(P:Params):Obj:=dt [(d P "__module__" 343 (v "patchkin.errors" 236)),(d P "__qualname__" 345 (v "Unsettled" 344)),(d P "__firstlineno__" 347 (vi 46 346)),(d P "__static_attributes__" 348 (r 128))] 4
def br(P:Params):Obj:=dt [(d P "__module__" 359 (v "patchkin.errors" 236)),(d P "__firstlineno__" 363 (vi 48 362)),(d P "__static_attributes__" 364 (r 140)),(d P "__doc__" 365 vn)] 2
def bt:Obj:=of "builtin_function_or_method" [(b "object.__init_subclass__"),(r 130)]
def bu:Obj:=ty (cl (S "Same") [(r 57)] [(r 142),(r 57),(w "ValueError"),(w "Exception"),(w "BaseException"),(w "object")] 141 (S "Same") true [] [] false none false) [(k (r 133)),none,(k (v "Same" 352)),(k (v "Same" 360)),(k (b "ValueError.__new__")),(k (vl true))]
def bv:Obj:=of "code" [(v "Unsettled" 338),(v "Unsettled" 339),(v "/claim/cut.py" 340),(i 46),(i 0),(i 0),(i 0),(i 0),(r 124),(vl false),(i 181),(r 125),vn,vn,vn,vn,(i 341),(i 46),(v "/claim/cut.py" 342)]
def bw:Obj:=of "super" [(r 142),(r 142),(r 142)]
def bz(P:Params):Obj:=dt [(d P "__module__" 359 (v "patchkin.errors" 236)),(d P "__qualname__" 361 (v "Same" 360)),(d P "__firstlineno__" 363 (vi 48 362)),(d P "__static_attributes__" 364 (r 140))] 4
def bA:Obj:=fr [(k (r 138)),(k (r 3)),(k (r 135)),none,(k (v "patchkin.errors" 236)),none,(k (r 0))]
def bB:Obj:=ty (cl (S "PatchError") [(w "ValueError")] [(r 57),(w "ValueError"),(w "Exception"),(w "BaseException"),(w "object")] 56 (S "PatchError") true [] [(r 70),(r 82),(r 94),(r 106),(r 118),(r 130),(r 142),(r 154)] false none false) [(k (r 48)),none,(k (v "PatchError" 238)),(k (v "PatchError" 246)),(k (b "ValueError.__new__")),(k (vl true))]
def bC(P:Params):Obj:=dt [(d P "__module__" 375 (v "patchkin.errors" 236)),(d P "__firstlineno__" 379 (vi 50 378)),(d P "__static_attributes__" 380 (r 152)),(d P "__doc__" 381 vn)] 2
def bD:Obj:=of "builtin_function_or_method" [(b "object.__init_subclass__"),(r 142)]
def bE:Obj:=of "code" [(v "Same" 354),(v "Same" 355),(v "/claim/cut.py" 356),(i 48),(i 0),(i 0),(i 0),(i 0),(r 136),(vl false),(i 181),(r 137),vn,vn,vn,vn,(i 357),(i 48),(v "/claim/cut.py" 358)]
def bF:Obj:=ty (cl (S "Leant") [(r 57)] [(r 154),(r 57),(w "ValueError"),(w "Exception"),(w "BaseException"),(w "object")] 153 (S "Leant") true [] [] false none false) [(k (r 145)),none,(k (v "Leant" 368)),(k (v "Leant" 376)),(k (b "ValueError.__new__")),(k (vl true))]
def bG:Obj:=of "getset_descriptor" [(v "__weakref__" 416),(r 173),(b "ExceptionGroup.__weakref__"),vn]
def bH:Obj:=fr [(k (r 150)),(k (r 3)),(k (r 147)),none,(k (v "patchkin.errors" 236)),none,(k (r 0))]
def bI(P:Params):Obj:=dt [(d P "__module__" 375 (v "patchkin.errors" 236)),(d P "__qualname__" 377 (v "Leant" 376)),(d P "__firstlineno__" 379 (vi 50 378)),(d P "__static_attributes__" 380 (r 152))] 4
def bJ:Obj:=tp [(v "lower_name" 409),(v "name" 410),(v "text" 411),(v "upper_name" 412)]
def bL:Obj:=of "super" [(r 154),(r 154),(r 154)]
def bM:Obj:=co "__init__" "Line.__init__" 398 55 5 3 164 181 [165,0,166,167,168] 406
def bN:Obj:=ty (cl (S "Line") [(w "object")] [(r 173),(w "object")] 172 (S "Line") true [] [] false none false) [none,none,(k (v "Line" 386)),(k (v "Line" 394)),(k (b "object.__new__")),(k (vl true))]
def bO(P:Params):Obj:=dt [(d P "__module__" 393 (v "patchkin.order" 384)),(d P "__firstlineno__" 397 (vi 53 396)),(d P "__init__" 408 (r 170)),(d P "__static_attributes__" 413 (r 171)),(d P "__dict__" 415 (r 174)),(d P "__weakref__" 417 (r 175)),(d P "__doc__" 418 vn)] 4
def bP:Obj:=of "builtin_function_or_method" [(b "object.__init_subclass__"),(r 154)]
def bQ:Obj:=fn "__init__" "Line.__init__" (y 17 0) "patchkin.order" 384 169
def bR:Obj:=tp [(v "self" 401),(v "name" 402),(v "text" 403),(v "upper_name" 404),(v "lower_name" 405)]
def bS:Obj:=of "code" [(v "Leant" 370),(v "Leant" 371),(v "/claim/cut.py" 372),(i 50),(i 0),(i 0),(i 0),(i 0),(r 148),(vl false),(i 181),(r 149),vn,vn,vn,vn,(i 373),(i 50),(v "/claim/cut.py" 374)]
def bT:Obj:=of "getset_descriptor" [(v "__dict__" 414),(r 173),(b "function.__dict__"),(b "function.__dict__#set")]
def bU:Obj:=fn "__init__" "Patch.__init__" (y 18 0) "patchkin.order" 384 190
def bV(P:Params):Obj:=dt [(d P "__module__" 393 (v "patchkin.order" 384)),(d P "__qualname__" 395 (v "Line" 394)),(d P "__firstlineno__" 397 (vi 53 396)),(d P "__init__" 408 (r 170)),(d P "__static_attributes__" 413 (r 171))] 5
def bW:Obj:=co "leans_straight_on" "leans_straight_on" 464 74 1 3 204 181 [205,0,0,0,206] 467
def bX:Obj:=co "files_with_lines" "files_with_lines" 496 101 1 3 228 181 [229,0,0,0,230] 499
def bY:Obj:=fn "live_patches" "live_patches" (x 21) "patchkin.order" 384 214
def bZ:Obj:=of "getset_descriptor" [(v "__dict__" 451),(r 194),(b "function.__dict__"),(b "function.__dict__#set")]
def b0:Obj:=fr [(k (r 162)),(k (r 3)),(k (r 159)),none,(k (v "patchkin.order" 384)),none,(k (r 0))]
def b1:Obj:=fn "standing_lines" "standing_lines" (x 23) "patchkin.order" 384 226
noncomputable def b2:Obj:=tp [(v "patches" 473),(v "taken_back" 474),(v "live" 475),(v "patch" 476)]
def b3:Obj:=fn "lines_named_by" "lines_named_by" (x 19) "patchkin.order" 384 202
def b4:Obj:=tp [(v "self" 436),(v "name" 437),(v "file" 438),(v "puts" 439),(v "cuts" 440),(v "other" 441)]
def b5(P:Params):Obj:=dt [(d P "__module__" 428 (v "patchkin.order" 384)),(d P "__firstlineno__" 432 (vi 60 431)),(d P "__init__" 444 (r 191)),(d P "__static_attributes__" 450 (r 192)),(d P "__dict__" 452 (r 195)),(d P "__weakref__" 454 (r 196)),(d P "__doc__" 455 vn)] 4
def b6:Obj:=l3 [(55,4,169)]
def b7:Obj:=of "builtin_function_or_method" [(b "object.__init_subclass__"),(r 173)]
def b8:Obj:=co "lines_put" "lines_put" 480 88 2 3 216 181 [217,0,218,219,220] 487
def b9:Obj:=tp [(v "cuts" 445),(v "file" 446),(v "name" 447),(v "other" 448),(v "puts" 449)]
def ca:Obj:=fn "leans_straight_on" "leans_straight_on" (x 20) "patchkin.order" 384 207
def cb:Obj:=of "super" [(r 173),(r 173),(r 173)]
def cc:Obj:=fv "__init__" "Line.__init__" (y 17 0)
def cd:Obj:=fn "files_with_lines" "files_with_lines" (x 24) "patchkin.order" 384 231
def ce:Obj:=of "getset_descriptor" [(v "__weakref__" 453),(r 194),(b "ExceptionGroup.__weakref__"),vn]
def cf:Obj:=ty (cl (S "Patch") [(w "object")] [(r 194),(w "object")] 193 (S "Patch") true [] [] false none false) [none,none,(k (v "Patch" 421)),(k (v "Patch" 429)),(k (b "object.__new__")),(k (vl true))]
def cg:Obj:=of "code" [(v "Line" 388),(v "Line" 389),(v "/claim/cut.py" 390),(i 53),(i 0),(i 0),(i 0),(i 0),(r 160),(vl false),(i 181),(r 161),vn,vn,vn,vn,(i 391),(i 53),(v "/claim/cut.py" 392)]
def ch:Obj:=co "standing_lines" "standing_lines" 490 94 2 3 223 181 [224,0,0,0,225] 493
def ci:Obj:=co "lines_named_by" "lines_named_by" 458 68 1 3 199 181 [200,0,0,0,201] 461
def cj:Obj:=tp [(v "patches" 483),(v "file" 484),(v "lines" 485),(v "patch" 486)]
def ck:Obj:=co "live_patches" "live_patches" 470 79 1 3 209 181 [210,0,211,212,213] 477
def cm:Obj:=fn "lines_put" "lines_put" (x 22) "patchkin.order" 384 221
def cn:Obj:=co "__init__" "Patch.__init__" 433 62 6 3 185 181 [186,0,187,188,189] 442
def cp:Obj:=fn "straight_ahead" "straight_ahead" (x 25) "patchkin.order" 384 238
def cq:Obj:=fn "row_of" "row_of" (x 29) "patchkin.order" 384 262
def cr:Obj:=of "code" [(v "Patch" 423),(v "Patch" 424),(v "/claim/cut.py" 425),(i 60),(i 0),(i 0),(i 0),(i 0),(r 181),(vl false),(i 181),(r 182),vn,vn,vn,vn,(i 426),(i 60),(v "/claim/cut.py" 427)]
def cs:Obj:=tp [(v "lines" 505),(v "straight" 506),(v "line" 507)]
def ct:Obj:=fn "all_ahead" "all_ahead" (x 27) "patchkin.order" 384 250
def cu:Obj:=co "first_free" "first_free" 527 136 1 3 252 181 [253,0,254,255,256] 532
def cv:Obj:=fv "standing_lines" "standing_lines" (x 23)
def cw:Obj:=fv "lines_named_by" "lines_named_by" (x 19)
def cx:Obj:=of "super" [(r 194),(r 194),(r 194)]
def cy:Obj:=fv "live_patches" "live_patches" (x 21)
def cz:Obj:=co "joined" "joined" 511 114 2 3 240 181 [241,0,242,243,244] 518
def cA:Obj:=fv "__init__" "Patch.__init__" (y 18 0)
def cB:Obj:=fr [(k (r 183)),(k (r 3)),(k (r 180)),none,(k (v "patchkin.order" 384)),none,(k (r 0))]
def cC(P:Params):Obj:=dt [(d P "__module__" 428 (v "patchkin.order" 384)),(d P "__qualname__" 430 (v "Patch" 429)),(d P "__firstlineno__" 432 (vi 60 431)),(d P "__init__" 444 (r 191)),(d P "__static_attributes__" 450 (r 192))] 5
def cD:Obj:=fv "lines_put" "lines_put" (x 22)
def cE:Obj:=fn "first_free" "first_free" (x 28) "patchkin.order" 384 257
def cF:Obj:=tp [(v "names" 514),(v "ahead" 515),(v "found" 516),(v "name" 517)]
def cG:Obj:=co "all_ahead" "all_ahead" 521 120 1 3 247 181 [248,0,0,0,249] 524
def cH:Obj:=co "row_of" "row_of" 535 141 2 3 259 181 [260,0,0,0,261] 538
def cI:Obj:=of "builtin_function_or_method" [(b "object.__init_subclass__"),(r 194)]
def cJ:Obj:=fv "files_with_lines" "files_with_lines" (x 24)
def cK:Obj:=l3 [(62,4,190)]
def cL:Obj:=fn "joined" "joined" (x 26) "patchkin.order" 384 245
def cM:Obj:=fv "leans_straight_on" "leans_straight_on" (x 20)
def cN:Obj:=co "straight_ahead" "straight_ahead" 502 104 1 3 233 181 [234,0,235,236,237] 508
def cO:Obj:=tp [(v "waiting" 530),(v "name" 531)]
def cP:Obj:=tp [(v "self" 574),(v "pairs" 575),(v "first" 576),(v "second" 577)]
def cQ:Obj:=fn "quarrelling" "Sight.quarrelling" (y 30 2) "patchkin.order" 384 290
def cR(P:Params):Obj:=dt [(d P "__module__" 548 (v "patchkin.order" 384)),(d P "__firstlineno__" 552 (vi 156 551)),(d P "__init__" 561 (r 277)),(d P "is_ahead" 570 (r 284)),(d P "quarrelling" 580 (r 291)),(d P "most_from" 587 (r 298)),(d P "staying" 594 (r 305)),(d P "__static_attributes__" 597 (r 306)),(d P "__dict__" 599 (r 309)),(d P "__weakref__" 601 (r 310)),(d P "__doc__" 602 vn)] 4
def cS:Obj:=co "is_ahead" "Sight.is_ahead" 562 162 3 3 278 181 [279,0,280,281,282] 568
def cT:Obj:=tp [(v "self" 556),(v "patches" 557),(v "file" 558)]
def cU:Obj:=fn "staying" "Sight.staying" (y 30 4) "patchkin.order" 384 304
def cV:Obj:=co "most_from" "Sight.most_from" 581 173 1 3 292 181 [293,0,294,295,296] 585
def cW:Obj:=fv "all_ahead" "all_ahead" (x 27)
def cX:Obj:=fv "row_of" "row_of" (x 29)
def cY:Obj:=fn "__init__" "Sight.__init__" (y 30 0) "patchkin.order" 384 276
def cZ:Obj:=of "getset_descriptor" [(v "__dict__" 598),(r 308),(b "function.__dict__"),(b "function.__dict__#set")]
def c0:Obj:=tp [(v "self" 591)]
def c1:Obj:=fv "straight_ahead" "straight_ahead" (x 25)
def c2:Obj:=fv "first_free" "first_free" (x 28)
def c3:Obj:=co "staying" "Sight.staying" 588 176 1 3 299 181 [300,0,301,302,303] 592
def c4:Obj:=tp [(v "self" 565),(v "first" 566),(v "second" 567)]
def c5:Obj:=co "__init__" "Sight.__init__" 553 158 3 3 271 181 [272,0,273,274,275] 559
def c6:Obj:=ty (cl (S "Sight") [(w "object")] [(r 308),(w "object")] 307 (S "Sight") true [] [] false none false) [none,none,(k (v "Sight" 541)),(k (v "Sight" 549)),(k (b "object.__new__")),(k (vl true))]
def c7:Obj:=fv "joined" "joined" (x 26)
def c8:Obj:=fn "is_ahead" "Sight.is_ahead" (y 30 1) "patchkin.order" 384 283
def c9:Obj:=co "quarrelling" "Sight.quarrelling" 571 165 1 3 285 181 [286,0,287,288,289] 578
def da:Obj:=tp [(v "ahead" 595),(v "lines" 596)]
def db:Obj:=fn "most_from" "Sight.most_from" (y 30 3) "patchkin.order" 384 297
def dc:Obj:=tp [(v "self" 584)]
def df:Obj:=of "getset_descriptor" [(v "__weakref__" 600),(r 308),(b "ExceptionGroup.__weakref__"),vn]
def dg:Obj:=fn "check_name" "check_name" (x 34) "patchkin.desk" 605 318
def dh:Obj:=fv "staying" "Sight.staying" (y 30 4)
def di:Obj:=of "super" [(r 308),(r 308),(r 308)]
def dj:Obj:=fv "__init__" "Sight.__init__" (y 30 0)
def dl:Obj:=co "new_lines" "new_lines" 639 198 3 3 334 181 [335,0,336,337,338] 650
def dm:Obj:=tp [(v "name" 614),(v "sign" 615)]
def dn:Obj:=fv "quarrelling" "Sight.quarrelling" (y 30 2)
def dp:Obj:=tp [(v "kept_names" 632),(v "size" 633),(v "behind" 634),(v "place" 635)]
def dq:Obj:=fn "changing_patch" "changing_patch" (x 38) "patchkin.desk" 605 344
def dr:Obj:=co "check_places" "check_places" 619 187 2 3 320 181 [321,0,322,323,324] 626
def ds:Obj:=of "code" [(v "Sight" 543),(v "Sight" 544),(v "/claim/cut.py" 545),(i 156),(i 0),(i 0),(i 0),(i 0),(r 267),(vl false),(i 181),(r 268),vn,vn,vn,vn,(i 546),(i 156),(v "/claim/cut.py" 547)]
def du:Obj:=fn "kept_behind" "kept_behind" (x 36) "patchkin.desk" 605 332
def dv:Obj:=tp [(v "patch" 642),(v "texts" 643),(v "kept_names" 644),(v "behind" 645),(v "lines" 646),(v "upper_name" 647),(v "place" 648),(v "text" 649)]
def dw:Obj:=fv "most_from" "Sight.most_from" (y 30 3)
def dx:Obj:=co "changing_patch" "changing_patch" 653 209 4 3 341 181 [342,0,0,0,343] 656
def dy:Obj:=of "builtin_function_or_method" [(b "object.__init_subclass__"),(r 308)]
def dz:Obj:=fn "new_lines" "new_lines" (x 37) "patchkin.desk" 605 339
def dA:Obj:=l3 [(158,4,276),(162,4,283),(165,4,290),(173,4,297),(176,4,304)]
def dB:Obj:=co "kept_behind" "kept_behind" 629 193 2 3 327 181 [328,0,329,330,331] 636
def dC:Obj:=tp [(v "places" 622),(v "size" 623),(v "least" 624),(v "place" 625)]
def dD(P:Params):Obj:=dt [(d P "__module__" 548 (v "patchkin.order" 384)),(d P "__qualname__" 550 (v "Sight" 549)),(d P "__firstlineno__" 552 (vi 156 551)),(d P "__init__" 561 (r 277)),(d P "is_ahead" 570 (r 284)),(d P "quarrelling" 580 (r 291)),(d P "most_from" 587 (r 298)),(d P "staying" 594 (r 305)),(d P "__static_attributes__" 597 (r 306))] 9
def dE:Obj:=fv "is_ahead" "Sight.is_ahead" (y 30 1)
def dF:Obj:=fn "check_places" "check_places" (x 35) "patchkin.desk" 605 325
def dG:Obj:=fr [(k (r 269)),(k (r 3)),(k (r 266)),none,(k (v "patchkin.order" 384)),none,(k (r 0))]
def dH:Obj:=co "check_name" "check_name" 611 181 1 3 313 181 [314,0,315,316,317] 616
def dI:Obj:=fn "__init__" "Desk.__init__" (y 39 0) "patchkin.desk" 605 358
def dJ:Obj:=fn "take" "Desk.take" (y 39 8) "patchkin.desk" 605 406
def dK:Obj:=fv "changing_patch" "changing_patch" (x 38)
def dL:Obj:=fn "leans" "Desk.leans" (y 39 10) "patchkin.desk" 605 418
def dM:Obj:=tp [(v "self" 674)]
def dN:Obj:=fn "cut" "Desk.cut" (y 39 6) "patchkin.desk" 605 394
def dO:Obj:=fv "kept_behind" "kept_behind" (x 36)
def dP:Obj:=co "patches" "Desk.patches" 693 233 1 3 374 181 [375,0,376,377,378] 697
def dQ:Obj:=fn "has" "Desk.has" (y 39 4) "patchkin.desk" 605 384
def dR:Obj:=co "back" "Desk.back" 718 259 4 3 396 181 [397,0,398,399,400] 725
def dS:Obj:=tp [(v "self" 689)]
def dT:Obj:=co "told" "Desk.told" 750 287 2 3 420 181 [421,0,422,423,424] 755
def dU:Obj:=co "record" "Desk.record" 706 240 5 3 386 181 [387,0,0,0,388] 709
def dV:Obj:=fn "stores" "Desk.stores" (y 39 2) "patchkin.desk" 605 372
noncomputable def dW:Obj:=co "begin" "Desk.begin" 678 224 2 3 360 181 [361,0,362,363,364] 683
noncomputable def dX:Obj:=co "drop" "Desk.drop" 734 275 3 3 408 181 [409,0,410,411,412] 741
def dY:Obj:=fv "check_name" "check_name" (x 34)
def dZ:Obj:=co "has" "Desk.has" 700 236 2 3 381 181 [382,0,0,0,383] 703
def d0:Obj:=tp [(v "self" 696)]
def d1:Obj:=fv "check_places" "check_places" (x 35)
def d2:Obj:=co "stores" "Desk.stores" 686 230 1 3 367 181 [368,0,369,370,371] 690
def d3:Obj:=fn "patches" "Desk.patches" (y 39 3) "patchkin.desk" 605 379
def d4:Obj:=co "leans" "Desk.leans" 744 283 2 3 415 181 [416,0,0,0,417] 747
def d5:Obj:=fn "back" "Desk.back" (y 39 7) "patchkin.desk" 605 401
def d6:Obj:=fv "new_lines" "new_lines" (x 37)
def d7:Obj:=co "cut" "Desk.cut" 712 250 5 3 391 181 [392,0,0,0,393] 715
def d8:Obj:=tp [(v "self" 681),(v "store" 682)]
def d9:Obj:=tp [(v "self" 737),(v "store" 738),(v "patch" 739),(v "name" 740)]
def ea:Obj:=fn "record" "Desk.record" (y 39 5) "patchkin.desk" 605 389
def eb:Obj:=tp [(v "self" 753),(v "patch" 754)]
def ec:Obj:=co "__init__" "Desk.__init__" 671 219 1 3 353 181 [354,0,355,356,357] 675
def ed:Obj:=co "take" "Desk.take" 728 265 4 3 403 181 [404,0,0,0,405] 731
def ee:Obj:=tp [(v "self" 721),(v "store" 722),(v "patch" 723),(v "other" 724)]
noncomputable def ef:Obj:=fn "begin" "Desk.begin" (y 39 1) "patchkin.desk" 605 365
noncomputable def eg:Obj:=fn "drop" "Desk.drop" (y 39 9) "patchkin.desk" 605 413
def eh:Obj:=fv "has" "Desk.has" (y 39 4)
def ei:Obj:=of "code" [(v "Desk" 661),(v "Desk" 662),(v "/claim/cut.py" 663),(i 217),(i 0),(i 0),(i 0),(i 0),(r 349),(vl false),(i 181),(r 350),vn,vn,vn,vn,(i 664),(i 217),(v "/claim/cut.py" 665)]
def ej:Obj:=fv "stores" "Desk.stores" (y 39 2)
def ek:Obj:=fv "leans" "Desk.leans" (y 39 10)
def el:Obj:=fv "cut" "Desk.cut" (y 39 6)
def em:Obj:=fv "__init__" "Desk.__init__" (y 39 0)
def en:Obj:=fv "take" "Desk.take" (y 39 8)
def eo:Obj:=fr [(k (r 351)),(k (r 3)),(k (r 348)),none,(k (v "patchkin.desk" 605)),none,(k (r 0))]
def ep:Obj:=fv "back" "Desk.back" (y 39 7)
def er:Obj:=fv "told" "Desk.told" (y 39 11)
def es:Obj:=fv "record" "Desk.record" (y 39 5)
noncomputable def et:Obj:=fv "begin" "Desk.begin" (y 39 1)
noncomputable def eu:Obj:=fv "drop" "Desk.drop" (y 39 9)
def ev:Obj:=fv "patches" "Desk.patches" (y 39 3)
def ew:Obj:=co "sight_of" "Desk.sight_of" 796 305 3 3 458 181 [459,0,460,461,462] 802
def ey:Obj:=tp [(v "self" 843),(v "store" 844),(v "patch" 845),(v "needs" 846),(v "name" 847)]
def ez:Obj:=fn "check_store" "Desk.check_store" (y 39 18) "patchkin.desk" 605 470
def eA:Obj:=of "getset_descriptor" [(v "__dict__" 855),(r 502),(b "function.__dict__"),(b "function.__dict__#set")]
def eB:Obj:=co "stay" "Desk.stay" 781 299 3 3 446 181 [447,0,448,449,450] 787
def eC:Obj:=tp [(v "self" 808),(v "store" 809)]
noncomputable def eD:Obj:=fn "keep" "Desk.keep" (y 39 22) "patchkin.desk" 605 498
def eE:Obj:=co "check_new" "Desk.check_new" 830 320 3 3 486 181 [487,0,488,489,490] 837
def eF:Obj:=tp [(v "self" 824),(v "store" 825),(v "patch" 826)]
def eG:Obj:=fn "files" "Desk.files" (y 39 12) "patchkin.desk" 605 432
def eH:Obj:=fn "patches_of" "Desk.patches_of" (y 39 16) "patchkin.desk" 605 456
def eI:Obj:=tp [(v "self" 775),(v "store" 776),(v "file" 777)]
def eJ:Obj:=fn "check_held" "Desk.check_held" (y 39 20) "patchkin.desk" 605 484
def eK:Obj:=co "row" "Desk.row" 766 293 3 3 434 181 [435,0,0,0,436] 769
noncomputable def eL(P:Params):Obj:=dt [(d P "__module__" 666 (v "patchkin.desk" 605)),(d P "__firstlineno__" 670 (vi 217 669)),(d P "__init__" 677 (r 359)),(d P "begin" 685 (r 366)),(d P "stores" 692 (r 373)),(d P "patches" 699 (r 380)),(d P "has" 705 (r 385)),(d P "record" 711 (r 390)),(d P "cut" 717 (r 395)),(d P "back" 727 (r 402)),(d P "take" 733 (r 407)),(d P "drop" 743 (r 414)),(d P "leans" 749 (r 419)),(d P "told" 757 (r 426)),(d P "files" 765 (r 433)),(d P "row" 771 (r 438)),(d P "quarrels" 780 (r 445)),(d P "stay" 789 (r 452)),(d P "patches_of" 795 (r 457)),(d P "sight_of" 804 (r 464)),(d P "check_store" 812 (r 471)),(d P "check_made" 820 (r 478)),(d P "check_held" 829 (r 485)),(d P "check_new" 839 (r 492)),(d P "keep" 850 (r 499)),(d P "__static_attributes__" 854 (r 500)),(d P "__dict__" 856 (r 503)),(d P "__weakref__" 858 (r 504)),(d P "__doc__" 859 vn)] 4
def eM:Obj:=tp [(v "self" 761),(v "store" 762)]
def eN:Obj:=co "check_made" "Desk.check_made" 813 312 2 3 472 181 [473,0,474,475,476] 818
def eO:Obj:=fn "quarrels" "Desk.quarrels" (y 39 14) "patchkin.desk" 605 444
def eP:Obj:=tp [(v "self" 784),(v "store" 785),(v "file" 786)]
def eQ:Obj:=fn "sight_of" "Desk.sight_of" (y 39 17) "patchkin.desk" 605 463
def eR:Obj:=co "files" "Desk.files" 758 290 2 3 427 181 [428,0,429,430,431] 763
def eS:Obj:=co "patches_of" "Desk.patches_of" 790 302 2 3 453 181 [454,0,0,0,455] 793
def eT:Obj:=tp [(v "self" 833),(v "patch" 834),(v "files" 835),(v "name" 836)]
def eU:Obj:=of "getset_descriptor" [(v "__weakref__" 857),(r 502),(b "ExceptionGroup.__weakref__"),vn]
def eW:Obj:=fn "stay" "Desk.stay" (y 39 15) "patchkin.desk" 605 451
def eX:Obj:=co "check_held" "Desk.check_held" 821 316 3 3 479 181 [480,0,481,482,483] 827
def eY:Obj:=tp [(v "held" 851),(v "made" 852),(v "needs" 853)]
def eZ:Obj:=tp [(v "self" 799),(v "store" 800),(v "file" 801)]
def e0:Obj:=fn "check_new" "Desk.check_new" (y 39 21) "patchkin.desk" 605 491
def e1:Obj:=co "quarrels" "Desk.quarrels" 772 296 3 3 439 181 [440,0,441,442,443] 778
noncomputable def e2:Obj:=co "keep" "Desk.keep" 840 326 3 3 493 181 [494,0,495,496,497] 848
def e3:Obj:=fn "told" "Desk.told" (y 39 11) "patchkin.desk" 605 425
def e4:Obj:=tp [(v "self" 816),(v "patch" 817)]
def e5:Obj:=co "check_store" "Desk.check_store" 805 308 2 3 465 181 [466,0,467,468,469] 810
def e6:Obj:=fn "row" "Desk.row" (y 39 13) "patchkin.desk" 605 437
def e7:Obj:=ty (cl (S "Desk") [(w "object")] [(r 502),(w "object")] 501 (S "Desk") true [] [] false none false) [none,none,(k (v "Desk" 659)),(k (v "Desk" 667)),(k (b "object.__new__")),(k (vl true))]
def e8:Obj:=fn "check_made" "Desk.check_made" (y 39 19) "patchkin.desk" 605 477
def e9:Obj:=fn "_law_seen" "_law_seen" (x 51) "law_patchkin_k13_whole_no_line_lost" 862 574
def fa:Obj:=co "_law_deed" "_law_deed" 916 379 6 3 540 181 [541,0,0,0,542] 919
def fb:Obj:=fn "_law_name" "_law_name" (x 43) "law_patchkin_k13_whole_no_line_lost" 862 526
def fc:Obj:=tp [(v "row" 938),(v "line" 939)]
def fe:Obj:=fv "files" "Desk.files" (y 39 12)
def ff:Obj:=co "_law_draw" "_law_draw" 872 339 3 3 514 181 [515,0,516,517,518] 879
def fg:Obj:=fv "patches_of" "Desk.patches_of" (y 39 16)
def fh:Obj:=tp [(v "texts" 905),(v "cell" 906),(v "at" 907),(v "line" 908),(v "more" 909),(v "way" 910),(v "out" 911),(v "turned" 912)]
def fi:Obj:=fv "check_held" "Desk.check_held" (y 39 20)
def fj:Obj:=co "_law_text" "_law_text" 896 355 1 3 528 181 [529,0,0,0,530] 899
def fk:Obj:=fn "_law_row_form" "_law_row_form" (x 49) "law_patchkin_k13_whole_no_line_lost" 862 562
def fm:Obj:=tp [(v "cell" 885),(v "k" 886),(v "signs" 887),(v "size" 888),(v "base" 889),(v "far" 890),(v "found" 891),(v "j" 892)]
def fo:Obj:=co "_law_whole" "_law_whole" 928 410 1 3 550 181 [551,0,552,553,554] 932
def fp:Obj:=fn "_law_edit" "_law_edit" (x 45) "law_patchkin_k13_whole_no_line_lost" 862 538
def fq:Obj:=fv "quarrels" "Desk.quarrels" (y 39 14)
def ft:Obj:=fn "_law_cell_at" "_law_cell_at" (x 41) "law_patchkin_k13_whole_no_line_lost" 862 512
noncomputable def fu:Obj:=fv "keep" "Desk.keep" (y 39 22)
def fw:Obj:=co "_law_pairs_form" "_law_pairs_form" 943 421 1 3 564 181 [565,0,566,567,568] 948
def fx:Obj:=of "super" [(r 502),(r 502),(r 502)]
def fy:Obj:=co "_law_due" "_law_due" 957 430 2 3 576 181 [577,0,578,579,580] 966
def fz:Obj:=fn "_law_desk" "_law_desk" (x 47) "law_patchkin_k13_whole_no_line_lost" 862 548
def fA:Obj:=fv "check_store" "Desk.check_store" (y 39 18)
def fB:Obj:=tp [(v "script" 867),(v "k" 868)]
def fC:Obj:=co "_law_cell_at" "_law_cell_at" 864 335 2 3 507 181 [508,0,509,510,511] 869
def fD:Obj:=fn "_law_deed" "_law_deed" (x 46) "law_patchkin_k13_whole_no_line_lost" 862 543
def fE:Obj:=fn "_law_draw" "_law_draw" (x 42) "law_patchkin_k13_whole_no_line_lost" 862 519
def fF:Obj:=tp [(v "found" 931)]
def fG:Obj:=tp [(v "cell" 875),(v "k" 876),(v "bound" 877),(v "stir" 878)]
def fH:Obj:=co "_law_desk" "_law_desk" 922 398 4 3 545 181 [546,0,0,0,547] 925
def fI:Obj:=fn "_law_text" "_law_text" (x 44) "law_patchkin_k13_whole_no_line_lost" 862 531
def fJ:Obj:=fv "row" "Desk.row" (y 39 13)
def fL:Obj:=fn "_law_whole" "_law_whole" (x 48) "law_patchkin_k13_whole_no_line_lost" 862 555
noncomputable def fM(P:Params):Obj:=dt [(d P "__module__" 666 (v "patchkin.desk" 605)),(d P "__qualname__" 668 (v "Desk" 667)),(d P "__firstlineno__" 670 (vi 217 669)),(d P "__init__" 677 (r 359)),(d P "begin" 685 (r 366)),(d P "stores" 692 (r 373)),(d P "patches" 699 (r 380)),(d P "has" 705 (r 385)),(d P "record" 711 (r 390)),(d P "cut" 717 (r 395)),(d P "back" 727 (r 402)),(d P "take" 733 (r 407)),(d P "drop" 743 (r 414)),(d P "leans" 749 (r 419)),(d P "told" 757 (r 426)),(d P "files" 765 (r 433)),(d P "row" 771 (r 438)),(d P "quarrels" 780 (r 445)),(d P "stay" 789 (r 452)),(d P "patches_of" 795 (r 457)),(d P "sight_of" 804 (r 464)),(d P "check_store" 812 (r 471)),(d P "check_made" 820 (r 478)),(d P "check_held" 829 (r 485)),(d P "check_new" 839 (r 492)),(d P "keep" 850 (r 499)),(d P "__static_attributes__" 854 (r 500))] 27
def fN:Obj:=fv "check_made" "Desk.check_made" (y 39 19)
def fO:Obj:=tp [(v "rows" 960),(v "having" 961),(v "due" 962),(v "side" 963),(v "line" 964),(v "known" 965)]
def fP:Obj:=fv "stay" "Desk.stay" (y 39 15)
def fQ:Obj:=co "_law_row_form" "_law_row_form" 935 412 1 3 557 181 [558,0,559,560,561] 940
def fR:Obj:=fv "check_new" "Desk.check_new" (y 39 21)
def fS:Obj:=co "_law_edit" "_law_edit" 902 363 2 3 533 181 [534,0,535,536,537] 913
def fT:Obj:=fn "_law_pairs_form" "_law_pairs_form" (x 50) "law_patchkin_k13_whole_no_line_lost" 862 569
def fU:Obj:=of "builtin_function_or_method" [(b "object.__init_subclass__"),(r 502)]
def fV:Obj:=fn "_law_due" "_law_due" (x 52) "law_patchkin_k13_whole_no_line_lost" 862 581
def fW:Obj:=tp [(v "found" 946),(v "pair" 947)]
def fX:Obj:=co "_law_name" "_law_name" 882 343 2 3 521 181 [522,0,523,524,525] 893
def fY:Obj:=fv "sight_of" "Desk.sight_of" (y 39 17)
def fZ:Obj:=l3 [(219,4,358),(224,4,365),(230,4,372),(233,4,379),(236,4,384),(240,4,389),(250,4,394),(259,4,401),(265,4,406),(275,4,413),(283,4,418),(287,4,425),(290,4,432),(293,4,437),(296,4,444),(299,4,451),(302,4,456),(305,4,463),(308,4,470),(312,4,477),(316,4,484),(320,4,491),(326,4,498)]
def f0:Obj:=co "_law_seen" "_law_seen" 951 428 3 3 571 181 [572,0,0,0,573] 954
def f1:Obj:=fv "_law_cell_at" "_law_cell_at" (x 41)
def f2:Obj:=fv "_law_desk" "_law_desk" (x 47)
def f3:Obj:=fv "_law_row_form" "_law_row_form" (x 49)
def f4:Obj:=fv "_law_edit" "_law_edit" (x 45)
def f5:Obj:=fv "_law_name" "_law_name" (x 43)
def f6:Obj:=fv "_law_seen" "_law_seen" (x 51)
def f7:Obj:=fv "_law_pairs_form" "_law_pairs_form" (x 50)
def f8:Obj:=fv "_law_due" "_law_due" (x 52)
def f9:Obj:=fv "_law_text" "_law_text" (x 44)
def ga:Obj:=fv "_law_whole" "_law_whole" (x 48)
def gb:Obj:=fv "_law_draw" "_law_draw" (x 42)
def gc:Obj:=fv "_law_deed" "_law_deed" (x 46)
def gd(P:Params):Obj:=dt ((d P "__name__" 165 (v "law_patchkin_k13_whole_no_line_lost" 862))::ic P) 59
def ge:Obj:=co "law" "law" 982 448 1 3 590 181 [591,0,592,593,594] 998
def gf:Obj:=tp [(v "before" 972),(v "behind" 973),(v "i" 974),(v "j" 975),(v "one" 976),(v "other" 977),(v "pair" 978)]
def gg:Obj:=fn "_law_kept_in_order" "_law_kept_in_order" (x 53) "law_patchkin_k13_whole_no_line_lost" 862 588
def gh:Obj:=tp [(v "script" 985),(v "built" 986),(v "desk" 987),(v "store" 988),(v "other" 989),(v "having" 990),(v "before" 991),(v "name" 992),(v "behind" 993),(v "at" 994),(v "rows" 995),(v "row" 996),(v "side" 997)]
def gi:Obj:=fn "law" "law" (x 54) "law_patchkin_k13_whole_no_line_lost" 862 595
def gj:Obj:=co "_law_kept_in_order" "_law_kept_in_order" 969 438 2 3 583 181 [584,0,585,586,587] 979
def gk(P:Params):Obj:=dt ((d P "__name__" 165 (v "patchkin.desk" 605))::h9 P) 44
def gl:Obj:=l3 [(1,0,20),(5,0,27),(13,0,32),(18,0,39),(23,0,46),(34,0,53),(36,0,66),(38,0,78),(40,0,90),(42,0,102),(44,0,114),(46,0,126),(48,0,138),(50,0,150),(53,0,162),(60,0,183),(68,0,202),(74,0,207),(79,0,214),(88,0,221),(94,0,226),(101,0,231),(104,0,238),(114,0,245),(120,0,250),(136,0,257),(141,0,262),(156,0,269),(181,0,318),(187,0,325),(193,0,332),(198,0,339),(209,0,344),(217,0,351)]
def gm:Obj:=fv "_law_kept_in_order" "_law_kept_in_order" (x 53)
def gn:Obj:=l3 [(1,0,20),(5,0,27),(13,0,32),(18,0,39),(23,0,46),(34,0,53),(36,0,66),(38,0,78),(40,0,90),(42,0,102),(44,0,114),(46,0,126),(48,0,138),(50,0,150),(53,0,162),(60,0,183),(68,0,202),(74,0,207),(79,0,214),(88,0,221),(94,0,226),(101,0,231),(104,0,238),(114,0,245),(120,0,250),(136,0,257),(141,0,262),(156,0,269),(181,0,318),(187,0,325),(193,0,332),(198,0,339),(209,0,344),(217,0,351),(335,0,512),(339,0,519),(343,0,526),(355,0,531),(363,0,538),(379,0,543),(398,0,548),(410,0,555),(412,0,562),(421,0,569),(428,0,574),(430,0,581),(438,0,588),(448,0,595)]
def gp(P:Params):Obj:=dt ((d P "__name__" 165 (v "patchkin.errors" 236))::h0 P) 19
def gu(P:Params):Obj:=dt ((d P "__name__" 165 (v "patchkin.order" 384))::h6 P) 31
def gx(P:Params):Obj:=dt ((d P "__name__" 165 (v "patchkin.errors" 236))::h2 P) 21
def gA(P:Params):Obj:=dt ((d P "__name__" 165 (v "patchkin.order" 384))::h5 P) 24
def gC(P:Params):Obj:=dt ((d P "__name__" 165 (v "law_patchkin_k13_whole_no_line_lost" 862))::ib P) 57
def gE(P:Params):Obj:=dt ((d P "__name__" 165 (v "patchkin.desk" 605))::ia P) 45
def gF(P:Params):Obj:=dt ((d P "__name__" 165 (v "patchkin.errors" 236))::hY P) 17
def gI(P:Params):Obj:=dt ((d P "__name__" 165 (v "patchkin.errors" 236))::h3 P) 22
def gL(P:Params):Obj:=dt ((d P "__name__" 165 (v "patchkin.desk" 605))::h8 P) 39
def gN(P:Params):Obj:=dt ((d P "__name__" 165 (v "patchkin.errors" 236))::h1 P) 20
def gQ(P:Params):Obj:=dt ((d P "__name__" 165 (v "patchkin.order" 384))::h4 P) 23
def gS(P:Params):Obj:=dt ((d P "__name__" 165 (v "patchkin.errors" 236))::hX P) 16
def gV(P:Params):Obj:=dt ((d P "__name__" 165 (v "patchkin.order" 384))::h7 P) 36
def gX(P:Params):Obj:=dt ((d P "__name__" 165 (v "patchkin.errors" 236))::hW P) 15
def g0(P:Params):Obj:=dt ((d P "__name__" 165 (v "patchkin.errors" 236))::hZ P) 18
def g3:BT:=n ab (n ap (f aa) (f a5)) (n aq (f aa) z)
def g4:BT:=n ay (n aa (f aa) (f bb)) (n aH (f aa) z)
def g5:BT:=n aJ (n ab (f ac) (f a6)) (n az (f a7) z)
def g6:BT:=n ab (n aA (f aZ) z) (n ac (f a0) z)
def g7:BT:=n aa (f aa) z
def g8:BT:=n aa (f aa) (f aa)
def g9:BT:=n aa (f ab) z
def ha:BT:=n ab (f ab) (f ab)
def hb:BT:=n aa (f aa) (f ab)
def hc:BT:=n ab (f ab) z
def hd:BT:=n au (n aR (f aa) (f ab)) (n aa (f cc) (f cd))
def he:BT:=n ab (f ac) z
def hf:BT:=n aa g7 (f aa)
def hg(P:Params):BT:=n aC (n ab (n aP (f bp) z) (f (a9 P))) (n aa (f aV) (f bi))
def hh(P:Params):BT:=n am (n an (n ab (f (bj P)) z) (f ad)) (n ac (f (aQ P)) (f ab))
def hi(P:Params):BT:=n ao (n aa (f (aE P)) (f ab)) (n aF (f ad) (f (be P)))
def hj:BT:=n aw (n ax (n aa (f bt) z) (f aa)) (n ab (f aY) (f aa))
def hk(P:Params):BT:=n aa (n aa (n aS (f bm) z) (f ac)) (n (aI P) (f aT) (f bn))
def hl:BT:=n aa (n aK (f aL) (f bc)) (n aM (f ac) (f bf))
def hm(P:Params):BT:=n aB (n (aN P) (n bo (n aa (f f1) z) (f eh)) (n bU (n dg (f e9) z) (f ab))) (n a1 (n (bV P) (n cP (f fa) z) (f aa)) (n aa (f ei) (f aa)))
def hn(P:Params):BT:=n (bg P) (n bG (n dh (f fc) z) (f fe)) (n cp (f aa) (f ey))
def ho:BT:=n a8 (n aa g9 (f aa)) (n bX (f dI) (f ab))
def hp(P:Params):BT:=n aa (n (a2 P) (n bH (n ab (f fh) z) (f dJ)) (n bY (f dK) (f ez))) (n bh (n cr (n di (f aa) z) (f aa)) (n aa (f ab) (f eA)))
def hq(P:Params):BT:=n ab (n aP (n bp g9 (f ab)) (n bZ g7 (f eB))) (n (a9 P) (n b0 (n cQ (f f2) z) (f dL)) (n b1 (f dM) (f fi)))
def hr(P:Params):BT:=n bi (n ac (n (cR P) (f fk) z) (f ab)) (n aa (f ej) (f eD))
def hs:BT:=n ba (n bJ (n aa (f fo) z) (f aa)) (n cs (f aa) (f eE))
def ht(P:Params):BT:=n aD (n a3 (n bL (n cS (f fp) z) (f aa)) (n aa (f ac) (f aa))) (n (bq P) (n b4 (n dm (f aa) z) (f fq)) (n ct (f dP) (f aa)))
def hu(P:Params):BT:=n an (n ab (n (bj P) (n cu (f ft) z) (f dQ)) (n (b5 P) hc (f aa))) (n ad (n b6 (n dn (f aa) z) (f ek)) (n cv (f aa) (f eF)))
def hv:BT:=n ab (n b7 (n cU (f f3) z) (f eG)) (n ab (f dS) (f fu))
def hw:BT:=n aa (f ab) (f aa)
def hx(P:Params):BT:=n bB (n ab (n (bC P) (n aa (f f4) z) (f ab)) (n ab (f dq) (f ab))) (n ad (n aa (n aa (f fw) z) (f eI)) (n cW (f aa) (f fx)))
def hy(P:Params):BT:=n ao (n aa (n (aE P) (n ad (n cX (f aa) z) (f dU)) (n cx (n dr (f fy) z) (f aa))) (n ab (n ab (n ab (f fz) z) (f ab)) (n ab (f em) (f eJ)))) (n aF (n ad (n ab (n cY (f aa) z) (f en)) (n cy (f aa) (f fA))) (n (be P) (n aa (n cZ (f ab) z) (f eK)) (n cz (f dV) (f (eL P)))))
def hz:BT:=n ad (n bN (n c0 (f aa) z) (f eM)) (n c1 (f dW) (f aa))
def hA(P:Params):BT:=n ad (n (aX P) (n aa g9 (f dX)) (n b8 (f aa) (f eN))) (n ab (n cA (n dY (f f6) z) (f eO)) (n ab (f aa) (f fB)))
def hB:BT:=n ap (n aa (n aa (n c2 (f fC) z) (f dZ)) (n b9 g7 (f eP))) (n a5 (n aa (n aa (f fD) z) (f ab)) (n ab (f eo) (f ab)))
def hC:BT:=n aa (n cb (n c3 (f aa) z) (f eR)) hw
def hD:BT:=n aa (n cc (n dw (f fF) z) (f er)) (n cd (f aa) (f eT))
def hE(P:Params):BT:=n (av P) (n aa (n aa (n c4 (f aa) z) (f aa)) (n aa (f dx) (f aa))) (n bl (n cB (n dy (f f7) z) (f ab)) (n ab (f d0) (f eU)))
def hF:BT:=n ax (n aa (n bt (n ab (f fG) z) (f es)) (n ce (n d1 (f f8) z) (f eW))) (n aa (n aa (n aa (f fH) z) (f aa)) (n aa (f aa) (f eX)))
def hG(P:Params):BT:=n aa (n (cC P) (n c6 (f aa) z) (f fJ)) (n c7 (f d2) (f eY))
def hH(P:Params):BT:=n bb (n (bO P) (n ab (f fL) z) (f ab)) (n aa (f et) (f e0))
def hI(P:Params):BT:=n aH (n aa (n bP (n c8 (f aa) z) (f eu)) (n cD (f (fM P)) (f fN))) (n aa (n aa g9 (f e1)) (n aa (f d3) (f ab)))
def hJ:BT:=n aa (n aS (n bm (n cE (f aa) z) (f aa)) (n cf (n dC (f fO) z) (f fP))) (n ac (n cg (n c9 (f ab) z) (f d4)) (n ch (f ab) (f aa)))
def hK:BT:=n bn (n aa (n da (f fQ) z) (f aa)) (n cF (f aa) (f e2))
def hL:BT:=n a6 (n bQ (n db (f ga) z) (f e3)) (n ab (f d8) (f fR))
def hM:BT:=n az (n a7 (n bF (n dE (f fS) z) (f d9)) (n cj (f aa) (f e4))) (n ac (n ab (n ab (f fT) z) (f aa)) (n cG (f ev) (f fU)))
def hN:BT:=n aa (n aK (n aL (n ac (n cH (f gb) z) (f ea)) (n cI (n dF (f fV) z) (f ab))) (n bc (n bR (n dc (f aa) z) (f eb)) (n cJ (f ec) (f aa)))) (n aM (n ac (n bS g9 (f ed)) (n ck (f ab) (f e5))) (n bf (n cK (n df (f fW) z) (f e6)) (n cL (f aa) (f e7))))
def hO:BT:=n ac (n bT g9 (f aa)) (n cN (f ef) (f ab))
def hP:BT:=n ac (n a0 (n ac (n ab (f gc) z) (f eg)) (n cm (f fZ) (f e8))) (n bv (n cn (n dH (f f0) z) (f aa)) (n cO (f ab) (f aa)))
def hQ:BT:=n aC (n ab (f aP) z) (n aa (f aV) z)
def hR:BT:=n aw (n ax (f aa) z) (n ab (f aY) z)
def hS(P:Params):BT:=n aa (n aB (n (aN P) (f bo) z) (f a1)) (n ag (n aU (f bw) z) (f (bg P)))
def hT(P:Params):BT:=n aa (n aG (n ab (f (br P)) z) (f ad)) (n ad (f (aX P)) (f ab))
def hU:BT:=n ab (n ap g7 (f a5)) (n aq (n aa (f bD) z) (f aa))
def hV:BT:=n ab (n aA (n aZ (f bu) z) (f ac)) (n ac (f a0) (f bv))
end
end TW
namespace PySem.W.Fast
open PySem PySem.W L2 PK TW
noncomputable section
def tw3962849202470523011:Program:=PySem.Challenge.pw_patchkin_k13_whole_no_line_lost
theorem te3962849202470523011:tw3962849202470523011=tw3962849202470523011:=rfl
def tw6204960412362548992:Params->BT:=λP=>n (boot_o_0 P) (n (boot_o_1 P) (n (gp P) (n (boot_o_7 P) (n aa (n aB (f (aN P)) (f a1)) (n ag (f aU) z)) (n ab (n ai (f aO) (f a8)) (n aa (f (a2 P)) z))) (n aa (n aC (n ab (f aP) (f (a9 P))) (n aa (f aV) z)) (n aj (n al (f (aW P)) (f ba)) (n aD (f a3) z)))) (n (boot_o_5 P) (n (boot_o_9 P) (n am (n an (f ab) (f ad)) (n ac (f (aQ P)) z)) (n aa (n aa (f ad) (f (a4 P))) (n (ty (cl (S "PatchError") [(w "ValueError")] [(r 57),(w "ValueError"),(w "Exception"),(w "BaseException"),(w "object")] 56 (S "PatchError") true [] [(r 70),(r 82),(r 94),(r 106)] false none false) [(k (r 48)),none,(k (v "PatchError" 238)),(k (v "PatchError" 246)),(k (b "ValueError.__new__")),(k (vl true))]) (f ab) z))) (n ae (n ao (n aa (f (aE P)) (f ab)) (n aF (f ad) z)) (n aa (n aG (f ab) z) (n ad (f (aX P)) z))))) (n (boot_o_2 P) (n (boot_o_4 P) (n (boot_o_8 P) g3 (n ar (n au (f aR) (f aa)) (n (av P) (f aa) z))) (n (l3 [(1,0,20),(5,0,27),(13,0,32),(18,0,39),(23,0,46),(34,0,53),(36,0,66),(38,0,78),(40,0,90),(42,0,102)]) (n aw (n ax (f aa) (f aa)) (n ab (f aY) z)) g4)) (n (boot_o_6 P) (n (boot_o_10 P) (n aa (n aa (f aS) (f ac)) (n (aI P) (f aT) z)) g5) (n af (n aa (n aK (f aL) (f bc)) (n aM (f ac) z)) g6)))
theorem te6204960412362548992:tw6204960412362548992=tw6204960412362548992:=rfl
noncomputable def tw7719065992994507393:Params->BT:=λP=>n (boot_o_0 P) (n (boot_o_1 P) (n (gk P) (n (boot_o_7 P) (n aa (n aB (n (aN P) (n bo (f aa) (f eh)) (n bU (f dg) z)) (n a1 (n (bV P) (f cP) (f aa)) (n aa (f ei) z))) (n ag (n aU (n bw (f aa) (f aa)) (n bW (f ab) z)) (n (bg P) (n bG (f dh) z) (n cp (f aa) z)))) (n ab (n ai (n aO (n (bz P) (f cq) (f aa)) g7) (n a8 g8 (n bX (f dI) z))) (n aa (n (a2 P) (n bH (f ab) (f dJ)) (n bY (f dK) z)) (n bh (n cr (f di) z) g9)))) (n aa (n aC (n ab (n aP (n bp (f aa) (f ab)) (n bZ (f aa) z)) (n (a9 P) (n b0 (f cQ) (f dL)) (n b1 (f dM) z))) (n aa (n aV (n (bI P) (f dj) (f aa)) (n b2 (f dl) z)) (n bi (n ac (f (cR P)) z) (n aa (f ej) z)))) (n aj (n al (n (aW P) (n bA (f aa) (f dN)) (n b3 (f dO) z)) (n ba (n bJ (f aa) z) (n cs (f aa) z))) (n aD (n a3 (n bL (f cS) (f aa)) (n aa (f ac) z)) (n (bq P) (n b4 (f dm) z) (n ct (f dP) z)))))) (n (boot_o_5 P) (n (boot_o_9 P) (n am (n an (n ab (n (bj P) (f cu) (f dQ)) (n (b5 P) (f ab) z)) (n ad (n b6 (f dn) (f ek)) (n cv (f aa) z))) (n ac (n (aQ P) (n ad (f cT) (f dR)) g7) (n ab (n b7 (f cU) z) (n ab (f dS) z)))) (n aa (n aa (n ad (n ab (f ac) (f el)) (n cw (f dp) z)) (n (a4 P) (n bM (f cV) (f dT)) g9)) (n bB (n ab (n (bC P) (f aa) (f ab)) (n ab (f dq) z)) (n ad g7 (n cW (f aa) z))))) (n ae (n ao (n aa (n (aE P) (n ad (f cX) (f dU)) (n cx (f dr) z)) (n ab ha (n ab (f em) z))) (n aF (n ad (n ab (f cY) (f en)) (n cy (f aa) z)) (n (be P) (n aa (f cZ) z) (n cz (f dV) z)))) (n aa (n aG (n ab (n (br P) (f ds) (f ab)) (n ab (f du) z)) (n ad (n bN (f c0) z) (n c1 (f dW) z))) (n ad (n (aX P) (n aa (f aa) (f dX)) (n b8 (f aa) z)) (n ab (n cA (f dY) z) (n ab (f aa) z))))))) (n (boot_o_2 P) (n (boot_o_4 P) (n (boot_o_8 P) (n ab (n ap (n aa (n aa (f c2) (f dZ)) (n b9 (f aa) z)) (n a5 hb (n ab (f eo) z))) (n aq (n aa (n bD (f ab) (f ep)) (n ca (f dv) z)) (n aa (n cb (f c3) z) g9))) (n ar (n au (n aR hb hc) (n aa (n cc (f dw) (f er)) (n cd (f aa) z))) (n (av P) (n aa (n aa (f c4) (f aa)) (n aa (f dx) z)) (n bl (n cB (f dy) z) (n ab (f d0) z))))) (n gl (n aw (n ax (n aa (n bt (f ab) (f es)) (n ce (f d1) z)) (n aa g8 g7)) (n ab (n aY (n aa (f c5) (f ab)) (n aa (f dz) z)) (n aa (n (cC P) (f c6) z) (n c7 (f d2) z)))) (n ay (n aa (n aa (n aa (f dA) (f aa)) (n aa (f dB) z)) (n bb (n (bO P) (f ab) z) (n aa (f et) z))) (n aH (n aa (n bP (f c8) (f eu)) (n cD (f (dt [(d P "__module__" 666 (v "patchkin.desk" 605)),(d P "__qualname__" 668 (v "Desk" 667)),(d P "__firstlineno__" 670 (vi 217 669)),(d P "__init__" 677 (r 359)),(d P "begin" 685 (r 366)),(d P "stores" 692 (r 373)),(d P "patches" 699 (r 380)),(d P "has" 705 (r 385)),(d P "record" 711 (r 390)),(d P "cut" 717 (r 395)),(d P "back" 727 (r 402)),(d P "take" 733 (r 407)),(d P "drop" 743 (r 414)),(d P "leans" 749 (r 419))] 14)) z)) (n aa g7 (n aa (f d3) z)))))) (n (boot_o_6 P) (n (boot_o_10 P) (n aa (n aa (n aS (n bm (f cE) (f aa)) (n cf (f dC) z)) (n ac (n cg (f c9) (f d4)) (n ch (f ab) z))) (n (aI P) (n aT (n ac (f aa) (f d5)) (n ab (f d6) z)) (n bn (n aa (f da) z) (n cF (f aa) z)))) (n aJ (n ab (n ac (n bE (f (dD P)) (f d7)) (n ci (f aa) z)) (n a6 (n bQ (f db) z) (n ab (f d8) z))) (n az (n a7 (n bF (f dE) (f d9)) (n cj (f aa) z)) (n ac hc (n cG (f ev) z))))) (n af (n aa (n aK (n aL (n ac (f cH) (f ea)) (n cI (f dF) z)) (n bc (n bR (f dc) (f eb)) (n cJ (f ec) z))) (n aM (n ac (n bS (f aa) (f ed)) (n ck (f ab) z)) (n bf (n cK (f df) z) (n cL (f aa) z)))) (n ab (n aA (n aZ (n bu (f dG) (f ee)) (n cM (f aa) z)) (n ac (n bT (f aa) z) (n cN (f ef) z))) (n ac (n a0 (n ac (f ab) (f eg)) (n cm (f (l3 [(219,4,358),(224,4,365),(230,4,372),(233,4,379),(236,4,384),(240,4,389),(250,4,394),(259,4,401),(265,4,406),(275,4,413),(283,4,418),(287,4,425)])) z)) (n bv (n cn (f dH) z) (n cO (f ab) z)))))))
theorem te7719065992994507393:tw7719065992994507393=tw7719065992994507393:=rfl
def tw17527856951092847682:Params->BT:=λP=>n (boot_o_0 P) (n (boot_o_1 P) (n (gu P) (n (boot_o_7 P) (n aa (n aB (n (aN P) (f bo) (f bU)) (n a1 (f (bV P)) (f aa))) (n ag (n aU (f bw) (f bW)) (n (bg P) (f bG) z))) (n ab (n ai (n aO (f (bz P)) (f aa)) (n a8 (f aa) (f bX))) (n aa (n (a2 P) (f bH) (f bY)) (n bh (f cr) z)))) (n aa (n aC (n ab (n aP (f bp) (f bZ)) (n (a9 P) (f b0) (f b1))) (n aa (n aV (f (bI P)) (f b2)) (n bi (f ac) z))) (n aj (n al (n (aW P) (f bA) (f b3)) (n ba (f bJ) z)) (n aD (n a3 (f bL) (f aa)) (n (bq P) (f b4) z))))) (n (boot_o_5 P) (n (boot_o_9 P) (n am (n an (n ab (f (bj P)) (f (b5 P))) (n ad (f b6) (f cv))) (n ac (n (aQ P) (f ad) (f aa)) (n ab (f b7) z))) (n aa (n aa (n ad (f ab) (f cw)) (n (a4 P) (f bM) z)) (n bB (n ab (f (bC P)) (f ab)) (n ad (f aa) z)))) (n ae (n ao (n aa (n (aE P) (f ad) (f cx)) ha) (n aF (n ad (f ab) (f cy)) (n (be P) (f aa) z))) (n aa (n aG (n ab (f (br P)) (f ab)) (n ad (f bN) z)) (n ad (n (aX P) (f aa) (f b8)) (n ab (f cA) z)))))) (n (boot_o_2 P) (n (boot_o_4 P) (n (boot_o_8 P) (n ab (n ap (n aa (f aa) (f b9)) (n a5 (f aa) (f ab))) (n aq (n aa (f bD) (f ca)) (n aa (f cb) z))) (n ar hd (n (av P) g8 (n bl (f cB) z)))) (n (l3 [(1,0,20),(5,0,27),(13,0,32),(18,0,39),(23,0,46),(34,0,53),(36,0,66),(38,0,78),(40,0,90),(42,0,102),(44,0,114),(46,0,126),(48,0,138),(50,0,150),(53,0,162),(60,0,183),(68,0,202),(74,0,207),(79,0,214),(88,0,221),(94,0,226),(101,0,231)]) (n aw (n ax (n aa (f bt) (f ce)) g8) (n ab (n aY (f aa) (f aa)) (n aa (f (cC P)) z))) (n ay (n aa g8 (n bb (f (bO P)) z)) (n aH (n aa (f bP) (f cD)) g7)))) (n (boot_o_6 P) (n (boot_o_10 P) (n aa (n aa (n aS (f bm) (f cf)) (n ac (f cg) (f ch))) (n (aI P) (n aT (f ac) (f ab)) (n bn (f aa) z))) (n aJ (n ab (n ac (f bE) (f ci)) (n a6 (f bQ) z)) (n az (n a7 (f bF) (f cj)) (n ac (f ab) z)))) (n af (n aa (n aK (n aL (f ac) (f cI)) (n bc (f bR) (f cJ))) (n aM (n ac (f bS) (f ck)) (n bf (f cK) z))) (n ab (n aA (n aZ (f bu) (f cM)) (n ac (f bT) z)) (n ac (n a0 (f ac) (f cm)) (n bv (f cn) z))))))
theorem te17527856951092847682:tw17527856951092847682=tw17527856951092847682:=rfl
def tw5833859222935199402:Params->BT:=λP=>n (boot_o_0 P) (n (boot_o_1 P) (n (gk P) (n (boot_o_7 P) (n aa (n aB (n (aN P) (n bo (f aa) z) (n bU (f dg) z)) (n a1 (n (bV P) (f cP) z) (f aa))) (n ag (n aU (n bw (f aa) z) (n bW (f ab) z)) (n (bg P) (n bG (f dh) z) (f cp)))) (n ab (n ai (n aO (n (bz P) (f cq) z) g7) (n a8 g7 (f bX))) (n aa (n (a2 P) (n bH (f ab) z) (n bY (f dK) z)) (n bh (n cr (f di) z) (f aa))))) (n aa (n aC (n ab (n aP (n bp (f aa) z) (n bZ (f aa) z)) (n (a9 P) (n b0 (f cQ) z) (f b1))) (n aa (n aV (n (bI P) (f dj) z) (n b2 (f dl) z)) (n bi (n ac (f (cR P)) z) (f aa)))) (n aj (n al (n (aW P) (n bA (f aa) z) (n b3 (f dO) z)) (n ba (n bJ (f aa) z) (f cs))) (n aD (n a3 (n bL (f cS) z) (f aa)) (n (bq P) (n b4 (f dm) z) (f ct)))))) (n (boot_o_5 P) (n (boot_o_9 P) (n am (n an (n ab (n (bj P) (f cu) z) (n (b5 P) (f ab) z)) (n ad (n b6 (f dn) z) (f cv))) (n ac (n (aQ P) (n ad (f cT) z) g7) (n ab (n b7 (f cU) z) (f ab)))) (n aa (n aa (n ad he (n cw (f dp) z)) (n (a4 P) (n bM (f cV) z) (f aa))) (n bB (n ab (n (bC P) (f aa) z) (n ab (f dq) z)) (n ad g7 (f cW))))) (n ae (n ao (n aa (n (aE P) (n ad (f cX) z) (n cx (f dr) z)) (n ab hc (f ab))) (n aF (n ad (n ab (f cY) z) (n cy (f aa) z)) (n (be P) (n aa (f cZ) z) (f cz)))) (n aa (n aG (n ab (n (br P) (f ds) z) (n ab (f du) z)) (n ad (n bN (f c0) z) (f c1))) (n ad (n (aX P) g7 (f b8)) (n ab (n cA (f dY) z) (f ab))))))) (n (boot_o_2 P) (n (boot_o_4 P) (n (boot_o_8 P) (n ab (n ap (n aa (n aa (f c2) z) (n b9 (f aa) z)) (n a5 g7 (f ab))) (n aq (n aa (n bD (f ab) z) (n ca (f dv) z)) (n aa (n cb (f c3) z) (f aa)))) (n ar (n au (n aR g7 hc) (n aa (n cc (f dw) z) (f cd))) (n (av P) (n aa (n aa (f c4) z) (n aa (f dx) z)) (n bl (n cB (f dy) z) (f ab))))) (n (l3 [(1,0,20),(5,0,27),(13,0,32),(18,0,39),(23,0,46),(34,0,53),(36,0,66),(38,0,78),(40,0,90),(42,0,102),(44,0,114),(46,0,126),(48,0,138),(50,0,150),(53,0,162),(60,0,183),(68,0,202),(74,0,207),(79,0,214),(88,0,221),(94,0,226),(101,0,231),(104,0,238),(114,0,245),(120,0,250),(136,0,257),(141,0,262),(156,0,269),(181,0,318),(187,0,325),(193,0,332),(198,0,339),(209,0,344)]) (n aw (n ax (n aa (n bt (f ab) z) (n ce (f d1) z)) hf) (n ab (n aY (n aa (f c5) z) (n aa (f dz) z)) (n aa (n (cC P) (f c6) z) (f c7)))) (n ay (n aa (n aa (n aa (f dA) z) (n aa (f dB) z)) (n bb (n (bO P) (f ab) z) (f aa))) (n aH (n aa (n bP (f c8) z) (f cD)) hf)))) (n (boot_o_6 P) (n (boot_o_10 P) (n aa (n aa (n aS (n bm (f cE) z) (n cf (f dC) z)) (n ac (n cg (f c9) z) (f ch))) (n (aI P) (n aT (n ac (f aa) z) (n ab (f d6) z)) (n bn (n aa (f da) z) (f cF)))) (n aJ (n ab (n ac (n bE (f (dD P)) z) (n ci (f aa) z)) (n a6 (n bQ (f db) z) (f ab))) (n az (n a7 (n bF (f dE) z) (f cj)) (n ac hc (f cG))))) (n af (n aa (n aK (n aL (n ac (f cH) z) (n cI (f dF) z)) (n bc (n bR (f dc) z) (f cJ))) (n aM (n ac (n bS (f aa) z) (n ck (f ab) z)) (n bf (n cK (f df) z) (f cL)))) (n ab (n aA (n aZ (n bu (f dG) z) (n cM (f aa) z)) (n ac (n bT (f aa) z) (f cN))) (n ac (n a0 (n ac (f ab) z) (f cm)) (n bv (n cn (f dH) z) (f cO)))))))
theorem te5833859222935199402:tw5833859222935199402=tw5833859222935199402:=rfl
def tw3831305213646437194:Params->BT:=λP=>n (boot_o_0 P) (n (boot_o_1 P) (n (gx P) (n (boot_o_7 P) (n aa (n aB (n (aN P) (f bo) z) (f a1)) (n ag (f aU) (f (bg P)))) (n ab (n ai (f aO) (f a8)) (n aa (f (a2 P)) (f bh)))) (n aa (hg P) (n aj (n al (f (aW P)) (f ba)) (n aD (f a3) (f (bq P)))))) (n (boot_o_5 P) (n (boot_o_9 P) (hh P) (n aa (n aa (f ad) (f (a4 P))) (n (ty (cl (S "PatchError") [(w "ValueError")] [(r 57),(w "ValueError"),(w "Exception"),(w "BaseException"),(w "object")] 56 (S "PatchError") true [] [(r 70),(r 82),(r 94),(r 106),(r 118),(r 130)] false none false) [(k (r 48)),none,(k (v "PatchError" 238)),(k (v "PatchError" 246)),(k (b "ValueError.__new__")),(k (vl true))]) (f ab) (f ad)))) (n ae (hi P) (n aa (n aG (f ab) (f ad)) (n ad (f (aX P)) (f ab)))))) (n (boot_o_2 P) (n (boot_o_4 P) (n (boot_o_8 P) (n ab (n ap g7 (f a5)) (n aq (f aa) (f aa))) (n ar (n au (f aR) (f aa)) (n (av P) (f aa) (f bl)))) (n (l3 [(1,0,20),(5,0,27),(13,0,32),(18,0,39),(23,0,46),(34,0,53),(36,0,66),(38,0,78),(40,0,90),(42,0,102),(44,0,114),(46,0,126)]) hj (n ay (n aa (f aa) (f bb)) (n aH (f aa) (f aa))))) (n (boot_o_6 P) (n (boot_o_10 P) (hk P) (n aJ (n ab (f ac) (f a6)) (n az (f a7) (f ac)))) (n af hl (n ab (n aA (f aZ) (f ac)) (n ac (f a0) (f bv))))))
theorem te3831305213646437194:tw3831305213646437194=tw3831305213646437194:=rfl
def tw535645629161829708:Params->BT:=λP=>n (boot_o_0 P) (n (boot_o_1 P) (n (gA P) (n (boot_o_7 P) (n aa (n aB (n (aN P) (f bo) z) (n a1 (f (bV P)) z)) (n ag (n aU (f bw) z) (n (bg P) (f bG) z))) (n ab (n ai (n aO (f (bz P)) z) (n a8 (f aa) z)) (n aa (n (a2 P) (f bH) z) (f bh)))) (n aa (n aC (n ab (n aP (f bp) z) (n (a9 P) (f b0) z)) (n aa (n aV (f (bI P)) z) (f bi))) (n aj (n al (n (aW P) (f bA) z) (n ba (f bJ) z)) (n aD (n a3 (f bL) z) (f (bq P)))))) (n (boot_o_5 P) (n (boot_o_9 P) (n am (n an (n ab (f (bj P)) z) (n ad (f b6) z)) (n ac (n (aQ P) (f ad) z) (n ab (f b7) z))) (n aa (n aa (n ad (f ab) z) (n (a4 P) (f bM) z)) (n bB (n ab (f (bC P)) z) (f ad)))) (n ae (n ao (n aa (n (aE P) (f ad) z) hc) (n aF (n ad (f ab) z) (f (be P)))) (n aa (n aG (n ab (f (br P)) z) (n ad (f bN) z)) (n ad (n (aX P) (f aa) z) (f ab)))))) (n (boot_o_2 P) (n (boot_o_4 P) (n (boot_o_8 P) (n ab (n ap g7 (n a5 (f aa) z)) (n aq (n aa (f bD) z) (n aa (f cb) z))) (n ar (n au (n aR (f aa) z) (n aa (f cc) z)) (n (av P) g7 (f bl)))) (n (l3 [(1,0,20),(5,0,27),(13,0,32),(18,0,39),(23,0,46),(34,0,53),(36,0,66),(38,0,78),(40,0,90),(42,0,102),(44,0,114),(46,0,126),(48,0,138),(50,0,150),(53,0,162)]) (n aw (n ax (n aa (f bt) z) g7) (n ab (n aY (f aa) z) (f aa))) (n ay (n aa g7 (n bb (f (bO P)) z)) (n aH (n aa (f bP) z) (f aa))))) (n (boot_o_6 P) (n (boot_o_10 P) (n aa (n aa (n aS (f bm) z) (n ac (f cg) z)) (n (aI P) (n aT (f ac) z) (f bn))) (n aJ (n ab (n ac (f bE) z) (n a6 (f bQ) z)) (n az (n a7 (f bF) z) (f ac)))) (n af (n aa (n aK (n aL (f ac) z) (n bc (f bR) z)) (n aM (n ac (f bS) z) (f bf))) (n ab (n aA (n aZ (f bu) z) (n ac (f bT) z)) (n ac (n a0 (f ac) z) (f bv))))))
theorem te535645629161829708:tw535645629161829708=tw535645629161829708:=rfl
def tw17462787070141436974:Params->BT:=λP=>n (boot_o_0 P) (n (boot_o_1 P) (n (gC P) (n (boot_o_7 P) (n aa (hm P) (n ag (n aU (n bw (n aa (f fb) z) (f aa)) (n bW (f ab) (f ew))) (hn P))) (n ab (n ai (n aO (n (bz P) (n cq (f ff) z) (f aa)) (n aa (f aa) (f fg))) ho) (hp P))) (n aa (n aC (hq P) (n aa (n aV (n (bI P) (n dj (f fj) z) (f aa)) (n b2 (f dl) (f eC))) (hr P))) (n aj (n al (n (aW P) (n bA (n aa (f fm) z) (f dN)) (n b3 (f dO) (f ab))) hs) (ht P)))) (n (boot_o_5 P) (n (boot_o_9 P) (n am (hu P) (n ac (n (aQ P) (n ad (n cT (f ab) z) (f dR)) g8) hv)) (n aa (n aa (n ad (n ab (n ac (f aa) z) (f el)) (n cw (f dp) (f eH))) (n (a4 P) (n bM (n cV (f aa) z) (f dT)) hw)) (hx P))) (n ae (hy P) (n aa (n aG (n ab (n (br P) (n ds (f f5) z) (f ab)) (n ab (f du) (f aa))) hz) (hA P))))) (n (boot_o_2 P) (n (boot_o_4 P) (n (boot_o_8 P) (n ab hB (n aq (n aa (n bD (n ab (f aa) z) (f ep)) (n ca (f dv) (f eQ))) hC)) (n ar (n au (n aR (n aa (n aa (f fE) z) (f ab)) (n ab (f ab) (f eS))) hD) (hE P))) (n (l3 [(1,0,20),(5,0,27),(13,0,32),(18,0,39),(23,0,46),(34,0,53),(36,0,66),(38,0,78),(40,0,90),(42,0,102),(44,0,114),(46,0,126),(48,0,138),(50,0,150),(53,0,162),(60,0,183),(68,0,202),(74,0,207),(79,0,214),(88,0,221),(94,0,226),(101,0,231),(104,0,238),(114,0,245),(120,0,250),(136,0,257),(141,0,262),(156,0,269),(181,0,318),(187,0,325),(193,0,332),(198,0,339),(209,0,344),(217,0,351),(335,0,512),(339,0,519),(343,0,526),(355,0,531),(363,0,538),(379,0,543),(398,0,548),(410,0,555),(412,0,562),(421,0,569),(428,0,574),(430,0,581)]) (n aw hF (n ab (n aY (n aa (n c5 (f fI) z) (f ab)) (n aa (f dz) (f aa))) (hG P))) (n ay (n aa (n aa (n aa (n dA (f aa) z) (f aa)) (n aa (f dB) (f eZ))) (hH P)) (hI P)))) (n (boot_o_6 P) (n (boot_o_10 P) (n aa hJ (n (aI P) (n aT (n ac (n aa (f f9) z) (f d5)) (n ab (f d6) (f ab))) hK)) (n aJ (n ab (n ac (n bE (n (dD P) (f ab) z) (f d7)) (n ci (f aa) (f aa))) hL) hM)) (n af hN (n ab (n aA (n aZ (n bu (n dG (f fX) z) (f ee)) (n cM (f aa) (f fY))) hO) hP))))
theorem te17462787070141436974:tw17462787070141436974=tw17462787070141436974:=rfl
def tw11208152110528226670:Params->BT:=λP=>n (boot_o_0 P) (n (boot_o_1 P) (n (gE P) (n (boot_o_7 P) (n aa (n aB (n (aN P) (n bo (f aa) (f eh)) (n bU (f dg) (f ab))) (n a1 (n (bV P) (f cP) (f aa)) (n aa (f ei) (f aa)))) (n ag (n aU (n bw (f aa) (f aa)) (n bW (f ab) (f ew))) (n (bg P) (n bG (f dh) (f fe)) (n cp (f aa) (f ey))))) (n ab (n ai (n aO (n (bz P) (f cq) (f aa)) (n aa (f aa) (f fg))) (n a8 g8 (n bX (f dI) (f ab)))) (n aa (n (a2 P) (n bH (f ab) (f dJ)) (n bY (f dK) (f ez))) (n bh (n cr (f di) (f aa)) (n aa (f ab) (f eA)))))) (n aa (n aC (n ab (n aP (n bp (f aa) (f ab)) (n bZ (f aa) (f eB))) (n (a9 P) (n b0 (f cQ) (f dL)) (n b1 (f dM) (f fi)))) (n aa (n aV (n (bI P) (f dj) (f aa)) (n b2 (f dl) (f eC))) (n bi (n ac (f (cR P)) (f ab)) (n aa (f ej) (f eD))))) (n aj (n al (n (aW P) (n bA (f aa) (f dN)) (n b3 (f dO) (f ab))) (n ba (n bJ (f aa) (f aa)) (n cs (f aa) (f eE)))) (n aD (n a3 (n bL (f cS) (f aa)) (n aa (f ac) (f aa))) (n (bq P) (n b4 (f dm) (f fq)) (n ct (f dP) z)))))) (n (boot_o_5 P) (n (boot_o_9 P) (n am (n an (n ab (n (bj P) (f cu) (f dQ)) (n (b5 P) (f ab) (f aa))) (n ad (n b6 (f dn) (f ek)) (n cv (f aa) (f eF)))) (n ac (n (aQ P) (n ad (f cT) (f dR)) g8) (n ab (n b7 (f cU) (f eG)) (n ab (f dS) (f fu))))) (n aa (n aa (n ad (n ab (f ac) (f el)) (n cw (f dp) (f eH))) (n (a4 P) (n bM (f cV) (f dT)) hw)) (n bB (n ab (n (bC P) (f aa) (f ab)) (n ab (f dq) (f ab))) (n ad (n aa (f aa) (f eI)) (n cW (f aa) (f fx)))))) (n ae (n ao (n aa (n (aE P) (n ad (f cX) (f dU)) (n cx (f dr) (f aa))) (n ab ha (n ab (f em) (f eJ)))) (n aF (n ad (n ab (f cY) (f en)) (n cy (f aa) (f fA))) (n (be P) (n aa (f cZ) (f eK)) (n cz (f dV) (f (eL P)))))) (n aa (n aG (n ab (n (br P) (f ds) (f ab)) (n ab (f du) (f aa))) (n ad (n bN (f c0) (f eM)) (n c1 (f dW) (f aa)))) (n ad (n (aX P) (n aa (f aa) (f dX)) (n b8 (f aa) (f eN))) (n ab (n cA (f dY) (f eO)) (n ab (f aa) z))))))) (n (boot_o_2 P) (n (boot_o_4 P) (n (boot_o_8 P) (n ab (n ap (n aa (n aa (f c2) (f dZ)) (n b9 (f aa) (f eP))) (n a5 hb (n ab (f eo) (f ab)))) (n aq (n aa (n bD (f ab) (f ep)) (n ca (f dv) (f eQ))) (n aa (n cb (f c3) (f eR)) hw))) (n ar (n au (n aR hb (n ab (f ab) (f eS))) (n aa (n cc (f dw) (f er)) (n cd (f aa) (f eT)))) (n (av P) (n aa (n aa (f c4) (f aa)) (n aa (f dx) (f aa))) (n bl (n cB (f dy) (f ab)) (n ab (f d0) (f eU)))))) (n gl (n aw (n ax (n aa (n bt (f ab) (f es)) (n ce (f d1) (f eW))) (n aa g8 (n aa (f aa) (f eX)))) (n ab (n aY (n aa (f c5) (f ab)) (n aa (f dz) (f aa))) (n aa (n (cC P) (f c6) (f fJ)) (n c7 (f d2) (f eY))))) (n ay (n aa (n aa (n aa (f dA) (f aa)) (n aa (f dB) (f eZ))) (n bb (n (bO P) (f ab) (f ab)) (n aa (f et) (f e0)))) (n aH (n aa (n bP (f c8) (f eu)) (n cD (f (fM P)) (f fN))) (n aa (n aa (f aa) (f e1)) (n aa (f d3) z)))))) (n (boot_o_6 P) (n (boot_o_10 P) (n aa (n aa (n aS (n bm (f cE) (f aa)) (n cf (f dC) (f fP))) (n ac (n cg (f c9) (f d4)) (n ch (f ab) (f aa)))) (n (aI P) (n aT (n ac (f aa) (f d5)) (n ab (f d6) (f ab))) (n bn (n aa (f da) (f aa)) (n cF (f aa) (f e2))))) (n aJ (n ab (n ac (n bE (f (dD P)) (f d7)) (n ci (f aa) (f aa))) (n a6 (n bQ (f db) (f e3)) (n ab (f d8) (f fR)))) (n az (n a7 (n bF (f dE) (f d9)) (n cj (f aa) (f e4))) (n ac (n ab (f ab) (f aa)) (n cG (f ev) (f fU)))))) (n af (n aa (n aK (n aL (n ac (f cH) (f ea)) (n cI (f dF) (f ab))) (n bc (n bR (f dc) (f eb)) (n cJ (f ec) (f aa)))) (n aM (n ac (n bS (f aa) (f ed)) (n ck (f ab) (f e5))) (n bf (n cK (f df) (f e6)) (n cL (f aa) (f e7))))) (n ab (n aA (n aZ (n bu (f dG) (f ee)) (n cM (f aa) (f fY))) (n ac (n bT (f aa) (f aa)) (n cN (f ef) (f ab)))) (n ac (n a0 (n ac (f ab) (f eg)) (n cm (f fZ) (f e8))) (n bv (n cn (f dH) (f aa)) (n cO (f ab) z)))))))
theorem te11208152110528226670:tw11208152110528226670=tw11208152110528226670:=rfl
def tw6668101807467227023:Params->BT:=λP=>n (boot_o_0 P) (n (boot_o_1 P) (n (gF P) (n (boot_o_7 P) (n aa (n aB (f (aN P)) z) (n ag (f aU) z)) (n ab (n ai (f aO) z) (f aa))) (n aa hQ (n aj (n al (f (aW P)) z) (f aD)))) (n (boot_o_5 P) (n (boot_o_9 P) (n am (n an (f ab) z) (n ac (f (aQ P)) z)) (n aa (n aa (f ad) z) (f (ty (cl (S "PatchError") [(w "ValueError")] [(r 57),(w "ValueError"),(w "Exception"),(w "BaseException"),(w "object")] 56 (S "PatchError") true [] [(r 70),(r 82)] false none false) [(k (r 48)),none,(k (v "PatchError" 238)),(k (v "PatchError" 246)),(k (b "ValueError.__new__")),(k (vl true))])))) (n ae (n ao (n aa (f (aE P)) z) (f aF)) (n aa (n aG (f ab) z) (f ad))))) (n (boot_o_2 P) (n (boot_o_4 P) (n (boot_o_8 P) (n ab (n ap (f aa) z) (n aq (f aa) z)) (n ar (n au (f aR) z) (f (av P)))) (n (l3 [(1,0,20),(5,0,27),(13,0,32),(18,0,39),(23,0,46),(34,0,53),(36,0,66),(38,0,78)]) hR (n ay g7 (f aH)))) (n (boot_o_6 P) (n (boot_o_10 P) (n aa (n aa (f aS) z) (n (aI P) (f aT) z)) (n aJ he (f az))) (n af (n aa (n aK (f aL) z) (f aM)) (n ab (n aA (f aZ) z) (f ac)))))
theorem te6668101807467227023:tw6668101807467227023=tw6668101807467227023:=rfl
def tw17178510915389307855:Params->BT:=λP=>n (boot_o_0 P) (n (boot_o_1 P) (n (gI P) (n (boot_o_7 P) (hS P) (n ab (n ai (n aO (f (bz P)) z) (f a8)) (n aa (f (a2 P)) (f bh)))) (n aa (hg P) (n aj (n al (n (aW P) (f bA) z) (f ba)) (n aD (f a3) (f (bq P)))))) (n (boot_o_5 P) (n (boot_o_9 P) (hh P) (n aa (n aa (n ad (f ab) z) (f (a4 P))) (n (ty (cl (S "PatchError") [(w "ValueError")] [(r 57),(w "ValueError"),(w "Exception"),(w "BaseException"),(w "object")] 56 (S "PatchError") true [] [(r 70),(r 82),(r 94),(r 106),(r 118),(r 130),(r 142)] false none false) [(k (r 48)),none,(k (v "PatchError" 238)),(k (v "PatchError" 246)),(k (b "ValueError.__new__")),(k (vl true))]) (f ab) (f ad)))) (n ae (n ao (n aa (n (aE P) (f ad) z) (f ab)) (n aF (f ad) (f (be P)))) (hT P)))) (n (boot_o_2 P) (n (boot_o_4 P) (n (boot_o_8 P) hU (n ar (n au (n aR (f aa) z) (f aa)) (n (av P) (f aa) (f bl)))) (n (l3 [(1,0,20),(5,0,27),(13,0,32),(18,0,39),(23,0,46),(34,0,53),(36,0,66),(38,0,78),(40,0,90),(42,0,102),(44,0,114),(46,0,126),(48,0,138)]) hj (n ay (n aa g7 (f bb)) (n aH (f aa) (f aa))))) (n (boot_o_6 P) (n (boot_o_10 P) (hk P) (n aJ (n ab (n ac (f bE) z) (f a6)) (n az (f a7) (f ac)))) (n af (n aa (n aK (n aL (f ac) z) (f bc)) (n aM (f ac) (f bf))) hV)))
theorem te17178510915389307855:tw17178510915389307855=tw17178510915389307855:=rfl
def tw3344827755179911249:Params->BT:=λP=>n (boot_o_0 P) (n (boot_o_1 P) (n (gL P) (n (boot_o_7 P) (n aa (n aB (n (aN P) (n bo (f aa) z) (f bU)) (n a1 (n (bV P) (f cP) z) (f aa))) (n ag (n aU (n bw (f aa) z) (f bW)) (n (bg P) (n bG (f dh) z) (f cp)))) (n ab (n ai (n aO (n (bz P) (f cq) z) (f aa)) (n a8 g7 (f bX))) (n aa (n (a2 P) (n bH (f ab) z) (f bY)) (n bh (n cr (f di) z) (f aa))))) (n aa (n aC (n ab (n aP (n bp (f aa) z) (f bZ)) (n (a9 P) (n b0 (f cQ) z) (f b1))) (n aa (n aV (n (bI P) (f dj) z) (f b2)) (n bi (n ac (f (cR P)) z) (f aa)))) (n aj (n al (n (aW P) (n bA (f aa) z) (f b3)) (n ba (n bJ (f aa) z) (f cs))) (n aD (n a3 (n bL (f cS) z) (f aa)) (n (bq P) (f b4) (f ct)))))) (n (boot_o_5 P) (n (boot_o_9 P) (n am (n an (n ab (n (bj P) (f cu) z) (f (b5 P))) (n ad (n b6 (f dn) z) (f cv))) (n ac (n (aQ P) (n ad (f cT) z) (f aa)) (n ab (n b7 (f cU) z) (f ab)))) (n aa (n aa (n ad he (f cw)) (n (a4 P) (n bM (f cV) z) (f aa))) (n bB (n ab (n (bC P) (f aa) z) (f ab)) (n ad (f aa) (f cW))))) (n ae (n ao (n aa (n (aE P) (n ad (f cX) z) (f cx)) (n ab hc (f ab))) (n aF (n ad (n ab (f cY) z) (f cy)) (n (be P) (n aa (f cZ) z) (f cz)))) (n aa (n aG (n ab (n (br P) (f ds) z) (f ab)) (n ad (n bN (f c0) z) (f c1))) (n ad (n (aX P) g7 (f b8)) (n ab (f cA) (f ab))))))) (n (boot_o_2 P) (n (boot_o_4 P) (n (boot_o_8 P) (n ab (n ap (n aa (n aa (f c2) z) (f b9)) (n a5 g7 (f ab))) (n aq (n aa (n bD (f ab) z) (f ca)) (n aa (n cb (f c3) z) (f aa)))) (n ar (n au (n aR g7 (f ab)) (n aa (n cc (f dw) z) (f cd))) (n (av P) (n aa (n aa (f c4) z) (f aa)) (n bl (n cB (f dy) z) (f ab))))) (n (l3 [(1,0,20),(5,0,27),(13,0,32),(18,0,39),(23,0,46),(34,0,53),(36,0,66),(38,0,78),(40,0,90),(42,0,102),(44,0,114),(46,0,126),(48,0,138),(50,0,150),(53,0,162),(60,0,183),(68,0,202),(74,0,207),(79,0,214),(88,0,221),(94,0,226),(101,0,231),(104,0,238),(114,0,245),(120,0,250),(136,0,257),(141,0,262),(156,0,269)]) (n aw (n ax (n aa (n bt (f ab) z) (f ce)) hf) (n ab (n aY (n aa (f c5) z) (f aa)) (n aa (n (cC P) (f c6) z) (f c7)))) (n ay (n aa (n aa (n aa (f dA) z) (f aa)) (n bb (n (bO P) (f ab) z) (f aa))) (n aH (n aa (n bP (f c8) z) (f cD)) g8)))) (n (boot_o_6 P) (n (boot_o_10 P) (n aa (n aa (n aS (n bm (f cE) z) (f cf)) (n ac (n cg (f c9) z) (f ch))) (n (aI P) (n aT (n ac (f aa) z) (f ab)) (n bn (n aa (f da) z) (f cF)))) (n aJ (n ab (n ac (n bE (f (dD P)) z) (f ci)) (n a6 (n bQ (f db) z) (f ab))) (n az (n a7 (n bF (f dE) z) (f cj)) (n ac (f ab) (f cG))))) (n af (n aa (n aK (n aL (n ac (f cH) z) (f cI)) (n bc (n bR (f dc) z) (f cJ))) (n aM (n ac (n bS (f aa) z) (f ck)) (n bf (n cK (f df) z) (f cL)))) (n ab (n aA (n aZ (n bu (f dG) z) (f cM)) (n ac (n bT (f aa) z) (f cN))) (n ac (n a0 (n ac (f ab) z) (f cm)) (n bv (f cn) (f cO)))))))
theorem te3344827755179911249:tw3344827755179911249=tw3344827755179911249:=rfl
def tw7771997186257835474:Params->BT:=λP=>n (boot_o_0 P) (n (boot_o_1 P) (n (gN P) (n (boot_o_7 P) (n aa (n aB (f (aN P)) (f a1)) (n ag (f aU) (f (bg P)))) (n ab (n ai (f aO) (f a8)) (n aa (f (a2 P)) (f bh)))) (n aa (n aC (n ab (f aP) (f (a9 P))) (n aa (f aV) (f bi))) (n aj (n al (f (aW P)) (f ba)) (n aD (f a3) z)))) (n (boot_o_5 P) (n (boot_o_9 P) (n am (n an (f ab) (f ad)) (n ac (f (aQ P)) (f ab))) (n aa (n aa (f ad) (f (a4 P))) (n (ty (cl (S "PatchError") [(w "ValueError")] [(r 57),(w "ValueError"),(w "Exception"),(w "BaseException"),(w "object")] 56 (S "PatchError") true [] [(r 70),(r 82),(r 94),(r 106),(r 118)] false none false) [(k (r 48)),none,(k (v "PatchError" 238)),(k (v "PatchError" 246)),(k (b "ValueError.__new__")),(k (vl true))]) (f ab) z))) (n ae (hi P) (n aa (n aG (f ab) (f ad)) (n ad (f (aX P)) z))))) (n (boot_o_2 P) (n (boot_o_4 P) (n (boot_o_8 P) (n ab (n ap (f aa) (f a5)) (n aq (f aa) (f aa))) (n ar (n au (f aR) (f aa)) (n (av P) (f aa) (f bl)))) (n (l3 [(1,0,20),(5,0,27),(13,0,32),(18,0,39),(23,0,46),(34,0,53),(36,0,66),(38,0,78),(40,0,90),(42,0,102),(44,0,114)]) (n aw (n ax (f aa) (f aa)) (n ab (f aY) (f aa))) g4)) (n (boot_o_6 P) (n (boot_o_10 P) (n aa (n aa (f aS) (f ac)) (n (aI P) (f aT) (f bn))) g5) (n af hl (n ab (n aA (f aZ) (f ac)) (n ac (f a0) z)))))
theorem te7771997186257835474:tw7771997186257835474=tw7771997186257835474:=rfl
def tw15550548214826170387:Params->BT:=λP=>n (boot_o_0 P) (n (boot_o_1 P) (n (gQ P) (n (boot_o_7 P) (hS P) (n ab (n ai (n aO (f (bz P)) z) (f a8)) (n aa (n (a2 P) (f bH) z) (f bh)))) (n aa (n aC (n ab (n aP (f bp) z) (f (a9 P))) (n aa (n aV (f (bI P)) z) (f bi))) (n aj (n al (n (aW P) (f bA) z) (f ba)) (n aD (n a3 (f bL) z) (f (bq P)))))) (n (boot_o_5 P) (n (boot_o_9 P) (n am (n an (n ab (f (bj P)) z) (f ad)) (n ac (n (aQ P) (f ad) z) (f ab))) (n aa (n aa (n ad (f ab) z) (f (a4 P))) (n bB (n ab (f (bC P)) z) (f ad)))) (n ae (n ao (n aa (n (aE P) (f ad) z) (f ab)) (n aF (n ad (f ab) z) (f (be P)))) (hT P)))) (n (boot_o_2 P) (n (boot_o_4 P) (n (boot_o_8 P) hU (n ar (n au (n aR (f aa) z) (f aa)) (n (av P) g7 (f bl)))) (n (l3 [(1,0,20),(5,0,27),(13,0,32),(18,0,39),(23,0,46),(34,0,53),(36,0,66),(38,0,78),(40,0,90),(42,0,102),(44,0,114),(46,0,126),(48,0,138),(50,0,150)]) (n aw (n ax (n aa (f bt) z) (f aa)) (n ab (n aY (f aa) z) (f aa))) (n ay (n aa g7 (f bb)) (n aH (n aa (f bP) z) (f aa))))) (n (boot_o_6 P) (n (boot_o_10 P) (n aa (n aa (n aS (f bm) z) (f ac)) (n (aI P) (n aT (f ac) z) (f bn))) (n aJ (n ab (n ac (f bE) z) (f a6)) (n az (n a7 (f bF) z) (f ac)))) (n af (n aa (n aK (n aL (f ac) z) (f bc)) (n aM (n ac (f bS) z) (f bf))) hV)))
theorem te15550548214826170387:tw15550548214826170387=tw15550548214826170387:=rfl
def tw4775692997638026035:Params->BT:=λP=>n (boot_o_0 P) (n (boot_o_1 P) (n (gS P) (n (boot_o_7 P) (n aa (n aB (f (aN P)) z) (f ag)) (n ab (n ai (f aO) z) (f aa))) (n aa (n aC (n ab (f aP) z) (f aa)) (n aj (f al) (f aD)))) (n (boot_o_5 P) (n (boot_o_9 P) (n am (n an (f ab) z) (f ac)) (n aa (f aa) (f (ty (cl (S "PatchError") [(w "ValueError")] [(r 57),(w "ValueError"),(w "Exception"),(w "BaseException"),(w "object")] 56 (S "PatchError") true [] [(r 70)] false none false) [(k (r 48)),none,(k (v "PatchError" 238)),(k (v "PatchError" 246)),(k (b "ValueError.__new__")),(k (vl true))])))) (n ae (n ao (n aa (f (aE P)) z) (f aF)) (n aa (f aG) (f ad))))) (n (boot_o_2 P) (n (boot_o_4 P) (n (boot_o_8 P) (n ab (n ap (f aa) z) (f aq)) (n ar (n au (f aR) z) (f (av P)))) (n (l3 [(1,0,20),(5,0,27),(13,0,32),(18,0,39),(23,0,46),(34,0,53),(36,0,66)]) (n aw (n ax (f aa) z) (f ab)) (n ay (f aa) (f aH)))) (n (boot_o_6 P) (n (boot_o_10 P) (n aa (n aa (f aS) z) (f (aI P))) (n aJ (f ab) (f az))) (n af (n aa (n aK (f aL) z) (f aM)) (n ab (f aA) (f ac)))))
theorem te4775692997638026035:tw4775692997638026035=tw4775692997638026035:=rfl
def tw4988891443976197076:Params->BT:=λP=>n (boot_o_0 P) (n (boot_o_1 P) (n (gV P) (n (boot_o_7 P) (n aa (n aB (n (aN P) (n bo (f aa) z) (f bU)) (n a1 (f (bV P)) (f aa))) (n ag (n aU (f bw) (f bW)) (n (bg P) (f bG) (f cp)))) (n ab (n ai (n aO (n (bz P) (f cq) z) (f aa)) (n a8 (f aa) (f bX))) (n aa (n (a2 P) (f bH) (f bY)) (n bh (f cr) (f aa))))) (n aa (n aC (n ab (n aP (n bp (f aa) z) (f bZ)) (n (a9 P) (f b0) (f b1))) (n aa (n aV (f (bI P)) (f b2)) (n bi (f ac) (f aa)))) (n aj (n al (n (aW P) (f bA) (f b3)) (n ba (f bJ) (f cs))) (n aD (n a3 (f bL) (f aa)) (n (bq P) (f b4) (f ct)))))) (n (boot_o_5 P) (n (boot_o_9 P) (n am (n an (n ab (n (bj P) (f cu) z) (f (b5 P))) (n ad (f b6) (f cv))) (n ac (n (aQ P) (f ad) (f aa)) (n ab (f b7) (f ab)))) (n aa (n aa (n ad (f ab) (f cw)) (n (a4 P) (f bM) (f aa))) (n bB (n ab (f (bC P)) (f ab)) (n ad (f aa) (f cW))))) (n ae (n ao (n aa (n (aE P) (n ad (f cX) z) (f cx)) ha) (n aF (n ad (f ab) (f cy)) (n (be P) (f aa) (f cz)))) (n aa (n aG (n ab (f (br P)) (f ab)) (n ad (f bN) (f c1))) (n ad (n (aX P) (f aa) (f b8)) (n ab (f cA) (f ab))))))) (n (boot_o_2 P) (n (boot_o_4 P) (n (boot_o_8 P) (n ab (n ap (n aa (n aa (f c2) z) (f b9)) (n a5 (f aa) (f ab))) (n aq (n aa (f bD) (f ca)) (n aa (f cb) (f aa)))) (n ar hd (n (av P) g8 (n bl (f cB) (f ab))))) (n (l3 [(1,0,20),(5,0,27),(13,0,32),(18,0,39),(23,0,46),(34,0,53),(36,0,66),(38,0,78),(40,0,90),(42,0,102),(44,0,114),(46,0,126),(48,0,138),(50,0,150),(53,0,162),(60,0,183),(68,0,202),(74,0,207),(79,0,214),(88,0,221),(94,0,226),(101,0,231),(104,0,238),(114,0,245),(120,0,250),(136,0,257),(141,0,262)]) (n aw (n ax (n aa (n bt (f ab) z) (f ce)) g8) (n ab (n aY (f aa) (f aa)) (n aa (f (cC P)) (f c7)))) (n ay (n aa g8 (n bb (f (bO P)) (f aa))) (n aH (n aa (f bP) (f cD)) g8)))) (n (boot_o_6 P) (n (boot_o_10 P) (n aa (n aa (n aS (n bm (f cE) z) (f cf)) (n ac (f cg) (f ch))) (n (aI P) (n aT (f ac) (f ab)) (n bn (f aa) (f cF)))) (n aJ (n ab (n ac (f bE) (f ci)) (n a6 (f bQ) (f ab))) (n az (n a7 (f bF) (f cj)) (n ac (f ab) (f cG))))) (n af (n aa (n aK (n aL (n ac (f cH) z) (f cI)) (n bc (f bR) (f cJ))) (n aM (n ac (f bS) (f ck)) (n bf (f cK) (f cL)))) (n ab (n aA (n aZ (f bu) (f cM)) (n ac (f bT) (f cN))) (n ac (n a0 (f ac) (f cm)) (n bv (f cn) (f cO)))))))
theorem te4988891443976197076:tw4988891443976197076=tw4988891443976197076:=rfl
def tw17206699960844067286:Params->BT:=λP=>n (boot_o_0 P) (n (boot_o_1 P) (n (gd P) (n (boot_o_7 P) (n aa (hm P) (n ag (n aU (n bw (n aa (f fb) z) (f aa)) (n bW hc (f ew))) (hn P))) (n ab (n ai (n aO (n (bz P) (n cq (f ff) z) (f aa)) (n aa g7 (f fg))) ho) (hp P))) (n aa (n aC (hq P) (n aa (n aV (n (bI P) (n dj (f fj) z) (f aa)) (n b2 (n dl (f ge) z) (f eC))) (hr P))) (n aj (n al (n (aW P) (n bA (n aa (f fm) z) (f dN)) (n b3 (n dO (f gm) z) (f ab))) hs) (ht P)))) (n (boot_o_5 P) (n (boot_o_9 P) (n am (hu P) (n ac (n (aQ P) (n ad (n cT (f ab) z) (f dR)) hf) hv)) (n aa (n aa (n ad (n ab (n ac (f aa) z) (f el)) (n cw (n dp (f gf) z) (f eH))) (n (a4 P) (n bM (n cV (f aa) z) (f dT)) hw)) (hx P))) (n ae (hy P) (n aa (n aG (n ab (n (br P) (n ds (f f5) z) (f ab)) (n ab (n du (f gg) z) (f aa))) hz) (hA P))))) (n (boot_o_2 P) (n (boot_o_4 P) (n (boot_o_8 P) (n ab hB (n aq (n aa (n bD (n ab (f aa) z) (f ep)) (n ca (n dv (f gh) z) (f eQ))) hC)) (n ar (n au (n aR (n aa (n aa (f fE) z) (f ab)) (n ab hc (f eS))) hD) (hE P))) (n gn (n aw hF (n ab (n aY (n aa (n c5 (f fI) z) (f ab)) (n aa (n dz (f gi) z) (f aa))) (hG P))) (n ay (n aa (n aa (n aa (n dA (f aa) z) (f aa)) (n aa (n dB (f gj) z) (f eZ))) (hH P)) (hI P)))) (n (boot_o_6 P) (n (boot_o_10 P) (n aa hJ (n (aI P) (n aT (n ac (n aa (f f9) z) (f d5)) (n ab (n d6 (f (fv "law" "law" (x 54))) z) (f ab))) hK)) (n aJ (n ab (n ac (n bE (n (dD P) (f ab) z) (f d7)) (n ci g7 (f aa))) hL) hM)) (n af hN (n ab (n aA (n aZ (n bu (n dG (f fX) z) (f ee)) (n cM g7 (f fY))) hO) hP))))
theorem te17206699960844067286:tw17206699960844067286=tw17206699960844067286:=rfl
def tw2572086559836742487:Params->BT:=λP=>n (boot_o_0 P) (n (boot_o_1 P) (n (boot_o_3 P) (f (boot_o_7 P)) (f aa)) (n (boot_o_5 P) (f (boot_o_9 P)) (f ae))) (n (boot_o_2 P) (n (boot_o_4 P) (f (boot_o_8 P)) (f ab)) (n (boot_o_6 P) (f (boot_o_10 P)) (f af)))
theorem te2572086559836742487:tw2572086559836742487=tw2572086559836742487:=rfl
def tw432791723100075065:Params->BT:=λP=>n (boot_o_0 P) (n (boot_o_1 P) (n (gX P) (n (boot_o_7 P) (n aa (f aB) (f ag)) (n ab (f ai) (f aa))) (n aa (n aC (f ab) (f aa)) (n aj (f al) (f aD)))) (n (boot_o_5 P) (n (boot_o_9 P) (n am (f an) (f ac)) (n aa (f aa) (f (ty (cl (S "PatchError") [(w "ValueError")] [(r 57),(w "ValueError"),(w "Exception"),(w "BaseException"),(w "object")] 56 (S "PatchError") true [] [] false none false) [(k (r 48)),none,(k (v "PatchError" 238)),(k (v "PatchError" 246)),(k (b "ValueError.__new__")),(k (vl true))])))) (n ae (n ao (f aa) (f aF)) (n aa (f aG) z)))) (n (boot_o_2 P) (n (boot_o_4 P) (n (boot_o_8 P) (n ab (f ap) (f aq)) (n ar (f au) (f (av P)))) (n (l3 [(1,0,20),(5,0,27),(13,0,32),(18,0,39),(23,0,46),(34,0,53)]) (n aw (f ax) (f ab)) (n ay (f aa) (f aH)))) (n (boot_o_6 P) (n (boot_o_10 P) (n aa (f aa) (f (aI P))) (n aJ (f ab) (f az))) (n af (n aa (f aK) (f aM)) (n ab (f aA) z))))
theorem te432791723100075065:tw432791723100075065=tw432791723100075065:=rfl
def tw11026816923133168633:Params->BT:=λP=>n (boot_o_0 P) (n (boot_o_1 P) (n (g0 P) (n (boot_o_7 P) (n aa (n aB (f (aN P)) (f a1)) (n ag (f aU) z)) (n ab (n ai (f aO) z) (n aa (f (a2 P)) z))) (n aa hQ (n aj (n al (f (aW P)) z) (n aD (f a3) z)))) (n (boot_o_5 P) (n (boot_o_9 P) (n am (n an (f ab) z) (n ac (f (aQ P)) z)) (n aa (n aa (f ad) z) (n (ty (cl (S "PatchError") [(w "ValueError")] [(r 57),(w "ValueError"),(w "Exception"),(w "BaseException"),(w "object")] 56 (S "PatchError") true [] [(r 70),(r 82),(r 94)] false none false) [(k (r 48)),none,(k (v "PatchError" 238)),(k (v "PatchError" 246)),(k (b "ValueError.__new__")),(k (vl true))]) (f ab) z))) (n ae (n ao (n aa (f (aE P)) z) (n aF (f ad) z)) (n aa (n aG (f ab) z) (n ad (f (aX P)) z))))) (n (boot_o_2 P) (n (boot_o_4 P) (n (boot_o_8 P) g3 (n ar (n au (f aR) z) (n (av P) (f aa) z))) (n (l3 [(1,0,20),(5,0,27),(13,0,32),(18,0,39),(23,0,46),(34,0,53),(36,0,66),(38,0,78),(40,0,90)]) hR (n ay g7 (n aH (f aa) z)))) (n (boot_o_6 P) (n (boot_o_10 P) (n aa (n aa (f aS) z) (n (aI P) (f aT) z)) (n aJ he (n az (f a7) z))) (n af (n aa (n aK (f aL) z) (n aM (f ac) z)) g6)))
theorem te11026816923133168633:tw11026816923133168633=tw11026816923133168633:=rfl
def tw10214777080487727125:Params->Heap:=λP=>Heap.mk #[boot_o_0 P,boot_o_1 P,boot_o_2 P,boot_o_3 P,boot_o_4 P,boot_o_5 P,boot_o_6 P,boot_o_7 P,boot_o_8 P,boot_o_9 P,boot_o_10 P,aa,ab,ae,af] (Life.mk [] [] [] 0 [] [] false #[] [] 0 false false false 0 [2000,10,10] false 0 true [] [] 0 false)
theorem te10214777080487727125:tw10214777080487727125=tw10214777080487727125:=rfl
def tw7294756394981420410:Params->Heap:=λP=>Heap.mk #[boot_o_0 P,boot_o_1 P,boot_o_2 P,gd P,boot_o_4 P,boot_o_5 P,boot_o_6 P,boot_o_7 P,boot_o_8 P,boot_o_9 P,boot_o_10 P,aa,gn,ae,af,aa,ab,am,aa,aC,aw,ao,aa,ab,ar,aa,aJ,aj,ay,aa,ab,aB,ap,an,aa,ab,ax,aa,aK,ai,au,aa,ab,al,aa,aG,aA,ag,aq,ac,aI P,aa,ab,aF,aM,aa,av P,bB,az,aD,aH,ad,ac,aN P,aa,ab,aS,aP,aa,aE P,aL,aO,aR,ad,ac,aW P,aa,ab,aZ,aU,aa,aQ P,aT,aV,aY,ad,ac,a2 P,aa,ab,a7,a3,aa,aX P,a0,a1,a5,ad,ac,a9 P,aa,ab,bc,a8,aa,a4 P,a6,ba,bb,ad,ac,bg P,aa,ab,bn,bi,aa,be P,bf,bh,bl,ad,ac,bq P,aa,ab,bv,bo,aa,bj P,bm,bp,bt,ad,ac,bz P,aa,ab,bE,bA,aa,br P,bu,bw,bD,ad,ac,bI P,aa,ab,bS,bH,aa,bC P,bF,bL,bP,aa,ac,bV P,aa,b6,cg,b0,aa,ab,bR,aa,cc,bM,bQ,bJ,bO P,bN,bT,bG,cb,b7,aa,ac,cC P,aa,cK,cr,cB,aa,ab,b4,aa,cA,cn,bU,b9,b5 P,cf,bZ,ce,cx,cI,aa,ab,cw,ci,b3,aa,ab,cM,bW,ca,aa,ab,b2,aa,cy,ck,bY,aa,ab,cj,aa,cD,b8,cm,aa,ab,cv,ch,b1,aa,ab,cJ,bX,cd,aa,ab,cs,aa,c1,cN,cp,aa,ab,cF,aa,c7,cz,cL,aa,ab,cW,cG,ct,aa,ab,cO,aa,c2,cu,cE,aa,ab,cX,cH,cq,aa,ac,dD P,aa,dA,ds,dG,aa,ab,cT,aa,dj,c5,cY,aa,ab,c4,aa,dE,cS,c8,aa,ab,cP,aa,dn,c9,cQ,aa,ab,dc,aa,dw,cV,db,aa,ab,c0,aa,dh,c3,cU,da,cR P,c6,cZ,df,di,dy,aa,ab,dm,aa,dY,dH,dg,aa,ab,dC,aa,d1,dr,dF,aa,ab,dp,aa,dO,dB,du,aa,ab,dv,aa,d6,dl,dz,aa,ab,dK,dx,dq,aa,ac,fM P,aa,fZ,ei,eo,aa,ab,dM,aa,em,ec,dI,aa,ab,d8,aa,et,dW,ef,aa,ab,dS,aa,ej,d2,dV,aa,ab,d0,aa,ev,dP,d3,aa,ab,eh,dZ,dQ,aa,ab,es,dU,ea,aa,ab,el,d7,dN,aa,ab,ee,aa,ep,dR,d5,aa,ab,en,ed,dJ,aa,ab,d9,aa,eu,dX,eg,aa,ab,ek,d4,dL,aa,ab,eb,aa,er,dT,e3,aa,ab,eM,aa,fe,eR,eG,aa,ab,fJ,eK,e6,aa,ab,eI,aa,fq,e1,eO,aa,ab,eP,aa,fP,eB,eW,aa,ab,fg,eS,eH,aa,ab,eZ,aa,fY,ew,eQ,aa,ab,eC,aa,fA,e5,ez,aa,ab,e4,aa,fN,eN,e8,aa,ab,eF,aa,fi,eX,eJ,aa,ab,eT,aa,fR,eE,e0,aa,ab,ey,aa,fu,e2,eD,eY,eL P,e7,eA,eU,fx,fU,aa,ab,fB,aa,f1,fC,ft,aa,ab,fG,aa,gb,ff,fE,aa,ab,fm,aa,f5,fX,fb,aa,ab,f9,fj,fI,aa,ab,fh,aa,f4,fS,fp,aa,ab,gc,fa,fD,aa,ab,f2,fH,fz,aa,ab,fF,aa,ga,fo,fL,aa,ab,fc,aa,f3,fQ,fk,aa,ab,fW,aa,f7,fw,fT,aa,ab,f6,f0,e9,aa,ab,fO,aa,f8,fy,fV,aa,ab,gf,aa,gm,gj,gg,aa,ab,gh,aa,fv "law" "law" (x 54),ge,gi] (Life.mk [] [] [] 0 [] [] false #[] [] 0 false false false 0 [2000,10,10] false 0 true [] [] 0 false)
theorem te7294756394981420410:tw7294756394981420410=tw7294756394981420410:=rfl
def tw12901944914244569421:Params->Frag:=λP=>[(2,boot_o_2 P),(3,gd P),(15,aa),(17,am),(18,aa),(20,aw),(21,ao),(22,aa),(24,ar),(25,aa),(27,aj),(28,ay),(29,aa),(32,ap),(33,an),(34,aa),(36,ax),(37,aa),(39,ai),(40,au),(41,aa),(43,al),(44,aa),(46,aA),(47,ag),(48,aq),(55,aa),(56,av P),(57,bB),(58,az),(61,ad),(68,aa),(69,aE P),(70,aL),(73,ad),(80,aa),(81,aQ P),(82,aT),(85,ad),(92,aa),(93,aX P),(94,a0),(97,ad),(104,aa),(105,a4 P),(106,a6),(109,ad),(116,aa),(117,be P),(118,bf),(121,ad),(128,aa),(129,bj P),(130,bm),(133,ad),(140,aa),(141,br P),(142,bu),(145,ad),(152,aa),(153,bC P),(154,bF),(164,aa),(166,bR),(167,aa),(169,bM),(170,bQ),(171,bJ),(172,bO P),(173,bN),(174,bT),(175,bG),(185,aa),(187,b4),(188,aa),(190,cn),(191,bU),(192,b9),(193,b5 P),(194,cf),(195,bZ),(196,ce),(199,aa),(202,ci),(203,b3),(204,aa),(207,bW),(208,ca),(209,aa),(211,b2),(212,aa),(214,ck),(215,bY),(216,aa),(218,cj),(219,aa),(221,b8),(222,cm),(223,aa),(226,ch),(227,b1),(228,aa),(231,bX),(232,cd),(233,aa),(235,cs),(236,aa),(238,cN),(239,cp),(240,aa),(242,cF),(243,aa),(245,cz),(246,cL),(247,aa),(250,cG),(251,ct),(252,aa),(254,cO),(255,aa),(257,cu),(258,cE),(259,aa),(262,cH),(263,cq),(271,aa),(273,cT),(274,aa),(276,c5),(277,cY),(278,aa),(280,c4),(281,aa),(283,cS),(284,c8),(285,aa),(287,cP),(288,aa),(290,c9),(291,cQ),(292,aa),(294,dc),(295,aa),(297,cV),(298,db),(299,aa),(301,c0),(302,aa),(304,c3),(305,cU),(306,da),(307,cR P),(308,c6),(309,cZ),(310,df),(313,aa),(315,dm),(316,aa),(318,dH),(319,dg),(320,aa),(322,dC),(323,aa),(325,dr),(326,dF),(327,aa),(329,dp),(330,aa),(332,dB),(333,du),(334,aa),(336,dv),(337,aa),(339,dl),(340,dz),(341,aa),(344,dx),(345,dq),(353,aa),(355,dM),(356,aa),(358,ec),(359,dI),(360,aa),(362,d8),(363,aa),(365,dW),(366,ef),(367,aa),(369,dS),(370,aa),(372,d2),(373,dV),(374,aa),(376,d0),(377,aa),(379,dP),(380,d3),(381,aa),(384,dZ),(385,dQ),(386,aa),(389,dU),(390,ea),(391,aa),(394,d7),(395,dN),(396,aa),(398,ee),(399,aa),(401,dR),(402,d5),(403,aa),(406,ed),(407,dJ),(408,aa),(410,d9),(411,aa),(413,dX),(414,eg),(415,aa),(418,d4),(419,dL),(420,aa),(422,eb),(423,aa),(425,dT),(426,e3),(427,aa),(429,eM),(430,aa),(432,eR),(433,eG),(434,aa),(437,eK),(438,e6),(439,aa),(441,eI),(442,aa),(444,e1),(445,eO),(446,aa),(448,eP),(449,aa),(451,eB),(452,eW),(453,aa),(456,eS),(457,eH),(458,aa),(460,eZ),(461,aa),(463,ew),(464,eQ),(465,aa),(467,eC),(468,aa),(470,e5),(471,ez),(472,aa),(474,e4),(475,aa),(477,eN),(478,e8),(479,aa),(481,eF),(482,aa),(484,eX),(485,eJ),(486,aa),(488,eT),(489,aa),(491,eE),(492,e0),(493,aa),(495,ey),(496,aa),(498,e2),(499,eD),(500,eY),(501,eL P),(502,e7),(503,eA),(504,eU),(507,aa),(509,fB),(510,aa),(512,fC),(513,ft),(514,aa),(516,fG),(517,aa),(519,ff),(520,fE),(521,aa),(523,fm),(524,aa),(526,fX),(527,fb),(528,aa),(531,fj),(532,fI),(533,aa),(535,fh),(536,aa),(538,fS),(539,fp),(540,aa),(543,fa),(544,fD),(545,aa),(548,fH),(549,fz),(550,aa),(552,fF),(553,aa),(555,fo),(556,fL),(557,aa),(559,fc),(560,aa),(562,fQ),(563,fk),(564,aa),(566,fW),(567,aa),(569,fw),(570,fT),(571,aa),(574,f0),(575,e9),(576,aa),(578,fO),(579,aa),(581,fy),(582,fV),(583,aa),(585,gf),(586,aa),(588,gj),(589,gg),(590,aa),(592,gh),(593,aa),(595,ge),(596,gi)]
theorem te12901944914244569421:tw12901944914244569421=tw12901944914244569421:=rfl
def tw14154915217854847937:List Stmt:=[x 15,x 16]
theorem te14154915217854847937:tw14154915217854847937=tw14154915217854847937:=rfl
def tw5293272179131815682:List Stmt:=[x 53,x 54]
theorem te5293272179131815682:tw5293272179131815682=tw5293272179131815682:=rfl
def tw12619429312867052482:List Stmt:=[x 40,x 41,x 42,x 43,x 44,x 45,x 46,x 47,x 48,x 49,x 50,x 51,x 52]
theorem te12619429312867052482:tw12619429312867052482=tw12619429312867052482:=rfl
def tw17268604856170375363:List Stmt:=[x 34,x 35,x 36,x 37,x 38]
theorem te17268604856170375363:tw17268604856170375363=tw17268604856170375363:=rfl
def tw3557898397914732232:List Stmt:=[x 9]
theorem te3557898397914732232:tw3557898397914732232=tw3557898397914732232:=rfl
def tw6199407058115361068:List Stmt:=[x 30,x 31,x 32,x 33]
theorem te6199407058115361068:tw6199407058115361068=tw6199407058115361068:=rfl
def tw6965874261902464780:List Stmt:=[x 0,x 1,x 2,x 3,x 4,x 5,x 6,x 7]
theorem te6965874261902464780:tw6965874261902464780=tw6965874261902464780:=rfl
def tw17618424733499812749:List Stmt:=[x 11]
theorem te17618424733499812749:tw17618424733499812749=tw17618424733499812749:=rfl
def tw5212381469291169550:List Stmt:=[x 17]
theorem te5212381469291169550:tw5212381469291169550=tw5212381469291169550:=rfl
def tw1729665653140254770:List Stmt:=[x 12]
theorem te1729665653140254770:tw1729665653140254770=tw1729665653140254770:=rfl
def tw1024518905276816754:List Stmt:=[x 10]
theorem te1024518905276816754:tw1024518905276816754=tw1024518905276816754:=rfl
def tw18351918507596729906:List Stmt:=[x 14]
theorem te18351918507596729906:tw18351918507596729906=tw18351918507596729906:=rfl
def tw10877733855107416979:List Stmt:=[x 8]
theorem te10877733855107416979:tw10877733855107416979=tw10877733855107416979:=rfl
def tw14644838815827378682:List Stmt:=[x 13]
theorem te14644838815827378682:tw14644838815827378682=tw14644838815827378682:=rfl
def tw17924544537566820954:List Stmt:=[x 39]
theorem te17924544537566820954:tw17924544537566820954=tw17924544537566820954:=rfl
def tw13934761259705186654:List Stmt:=[x 18,x 19,x 20,x 21,x 22,x 23,x 24]
theorem te13934761259705186654:tw13934761259705186654=tw13934761259705186654:=rfl
def tw4846947927844442783:List Stmt:=[x 25,x 26,x 27,x 28,x 29]
theorem te4846947927844442783:tw4846947927844442783=tw4846947927844442783:=rfl
def tw10951279514937120776:Program:={PySem.Challenge.pw_patchkin_k13_whole_no_line_lost with main:={PySem.Challenge.pw_patchkin_k13_whole_no_line_lost.main with body:=[x 0,x 2,x 3,x 4,x 5,x 7,x 8,x 9,x 10,x 11,x 12,x 13,x 14,x 15,x 17,x 18,x 19,x 20,x 21,x 22,x 23,x 24,x 25,x 26,x 27,x 28,x 29,x 30,x 32,x 33,x 34,x 35,x 36,x 37,x 38,x 39,x 41,x 42,x 43,x 44,x 45,x 46,x 47,x 48,x 49,x 50,x 51,x 52,x 53,x 54]}}
theorem te10951279514937120776:tw10951279514937120776=tw10951279514937120776:=rfl
end
end PySem.W.Fast
namespace PK
open PySem L2
theorem all_mk{l:W.OpenLaw}{w:World}{K:Qqy}{h:Heap}{mg:Qqx}{fa f0 f1 f2 f3 f4 f5 f6 f7 f8 f9 f10 f11 f12 f13 f14 f15 f16 f17 f18 f19 f20 f21 f22 f23 f24 f25 f26 f27 f28 f29 f30 f31 f32 f33 f34 f35 f36 f37 f38 f39 f40 f41 f42 f43 f44 f45 f46 f47 f48 f49 f50 f51 f52 f53 f54 f55 f56 f57 f58 f59 gW gY ie gB lS jF js iW j1 ou ly uK tH:Addr}{nQ lT:Tok}(X:K.In h)(G:h.Ns mainGlobals mg)(hfa:mg "law"=some (.ref fa))
  (DA:W.nsIn K mainGlobals "Line"=some (some (.ref gW)))
  (AH:W.nsIn K mainGlobals "Patch"=some (some (.ref gY)))
  (AI:W.nsIn K mainGlobals "Sight"=some (some (.ref ie)))
  (DB:W.nsIn K mainGlobals "Desk"=some (some (.ref gB)))
  (h0:FI K "counts_with" pq f0)
  (h1:FI K "most_pairs" qB f1)
  (h2:FI K "place_from" qC f2)
  (h3:FI K "kept" Ge f3)
  (h4:FI K "lines_named_by" kT f4)
  (h5:FI K "leans_straight_on" jV f5)
  (h6:FI K "live_patches" n6 f6)
  (h7:FI K "lines_put" rR f7)
  (h8:FI K "standing_lines" kU f8)
  (h9:FI K "files_with_lines" n9 f9)
  (VH:FI K "straight_ahead" me f10)
  (Uj:FI K "joined" zP f11)
  (Y9:FI K "all_ahead" oN f12)
  (Y_:FI K "first_free" qD f13)
  (RF:FI K "row_of" vD f14)
  (Za:FI K "check_name" qE f15)
  (Q2:FI K "check_places" n_ f16)
  (Zb:FI K "kept_behind" pw f17)
  (Zc:FI K "new_lines" rS f18)
  (U1:FI K "changing_patch" j0 f19)
  (VI:FI K "_law_cell_at" oa f20)
  (Uk:FI K "_law_draw" rZ f21)
  (Zd:FI K "_law_name" r9 f22)
  (Ze:FI K "_law_text" oP f23)
  (Zf:FI K "_law_edit" r_ f24)
  (Zg:FI K "_law_deed" oQ f25)
  (Zh:FI K "_law_desk" mH f26)
  (Zi:FI K "_law_whole" qJ f27)
  (Zj:FI K "_law_row_form" ni f28)
  (Zk:FI K "_law_pairs_form" lP f29)
  (Zl:FI K "_law_seen" oR f30)
  (Zm:FI K "_law_due" uE f31)
  (Zn:FI K "_law_kept_in_order" kL f32)
  (Zo:FI K "law" Kt f33)
  (Zp:MI K gW "__init__" "Line.__init__" mY f34)
  (Zq:MI K gY "__init__" "Patch.__init__" l_ f35)
  (Zr:MI K ie "__init__" "Sight.__init__" mf f36)
  (Zs:MI K ie "is_ahead" "Sight.is_ahead" mi f37)
  (Zt:MI K ie "quarrelling" "Sight.quarrelling" kY f38)
  (Zu:MI K gB "__init__" "Desk.__init__" mZ f39)
  (VJ:MI K gB "begin" "Desk.begin" qF f40)
  (Um:MI K gB "stores" "Desk.stores" tY f41)
  (Zv:MI K gB "patches" "Desk.patches" rV f42)
  (Zw:MI K gB "has" "Desk.has" qG f43)
  (Zx:MI K gB "record" "Desk.record" my f44)
  (Zy:MI K gB "cut" "Desk.cut" qH f45)
  (Zz:MI K gB "back" "Desk.back" rW f46)
  (ZA:MI K gB "take" "Desk.take" oO f47)
  (ZC:MI K gB "drop" "Desk.drop" rX f48)
  (ZD:MI K gB "leans" "Desk.leans" nP f49)
  (VL:MI K gB "files" "Desk.files" vE f50)
  (Uo:MI K gB "row" "Desk.row" qI f51)
  (ZE:MI K gB "quarrels" "Desk.quarrels" m_ f52)
  (ZF:MI K gB "patches_of" "Desk.patches_of" kB f53)
  (ZG:MI K gB "sight_of" "Desk.sight_of" nc f54)
  (ZH:MI K gB "check_store" "Desk.check_store" lr f55)
  (ZI:MI K gB "check_made" "Desk.check_made" lN f56)
  (ZJ:MI K gB "check_held" "Desk.check_held" lO f57)
  (ZK:MI K gB "check_new" "Desk.check_new" mj f58)
  (ZL:MI K gB "keep" "Desk.keep" rY f59)
  (DC:W.plainGet K gW Str.empty=true)
  (DD:W.hasDictIn K gW=true)
  (DE:W.plainOver K gW=true)
  (DG:W.findIn K (.ref gW) "__setattr__"=some (some (.builtin "object.__setattr__")))
  (DH:W.makesIn K gW=true)
  (DI:W.keepIn K (.ref gW)=true)
  (gT:W.findIn K (.ref gW) "name"=some none)
  (jO:W.findIn K (.ref gW) "text"=some none)
  (iH:W.findIn K (.ref gW) "upper_name"=some none)
  (iI:W.findIn K (.ref gW) "lower_name"=some none)
  (AJ:W.plainGet K gY Str.empty=true)
  (AK:W.hasDictIn K gY=true)
  (AL:W.plainOver K gY=true)
  (AM:W.findIn K (.ref gY) "__setattr__"=some (some (.builtin "object.__setattr__")))
  (AN:W.makesIn K gY=true)
  (AO:W.keepIn K (.ref gY)=true)
  (i0:W.findIn K (.ref gY) "name"=some none)
  (kl:W.findIn K (.ref gY) "file"=some none)
  (jQ:W.findIn K (.ref gY) "puts"=some none)
  (jR:W.findIn K (.ref gY) "cuts"=some none)
  (i4:W.findIn K (.ref gY) "other"=some none)
  (AQ:W.plainGet K ie Str.empty=true)
  (AR:W.hasDictIn K ie=true)
  (AS:W.plainOver K ie=true)
  (AU:W.findIn K (.ref ie) "__setattr__"=some (some (.builtin "object.__setattr__")))
  (AV:W.makesIn K ie=true)
  (AW:W.keepIn K (.ref ie)=true)
  (jy:W.findIn K (.ref ie) "ahead"=some none)
  (iu:W.findIn K (.ref ie) "lines"=some none)
  (DJ:W.plainGet K gB Str.empty=true)
  (DK:W.hasDictIn K gB=true)
  (DL:W.plainOver K gB=true)
  (DN:W.findIn K (.ref gB) "__setattr__"=some (some (.builtin "object.__setattr__")))
  (DO:W.makesIn K gB=true)
  (DP:W.keepIn K (.ref gB)=true)
  (i5:W.findIn K (.ref gB) "made"=some none)
  (je:W.findIn K (.ref gB) "needs"=some none)
  (iB:W.findIn K (.ref gB) "held"=some none)
  (pJ:W.nsIn K mainGlobals "PatchError"=some (some (.ref lS)))
  (uR:W.nsIn K mainGlobals "BadName"=some (some (.ref jF)))
  (qW:W.nsIn K mainGlobals "NameTaken"=some (some (.ref js)))
  (uS:W.nsIn K mainGlobals "NoStore"=some (some (.ref iW)))
  (uT:W.nsIn K mainGlobals "NoPatch"=some (some (.ref j1)))
  (xI:W.nsIn K mainGlobals "NoLine"=some (some (.ref ou)))
  (qX:W.nsIn K mainGlobals "Unsettled"=some (some (.ref ly)))
  (DQ:W.nsIn K mainGlobals "Same"=some (some (.ref uK)))
  (AX:W.nsIn K mainGlobals "Leant"=some (some (.ref tH)))
  (pK:W.nsIn K mainGlobals "NAME_SIGNS"=some (some (.str (Str.ofString "abcdefghijklmnopqrstuvwxyz0123456789") nQ)))
  (nA:W.nsIn K mainGlobals "LONGEST_NAME"=some (some (.int 12 lT)))
  (LF:W.nsIn K mainGlobals "len"=some none)
  (DR:W.nsIn K mainGlobals "range"=some none)
  (LG:W.nsIn K mainGlobals "max"=some none)
  (qY:W.nsIn K mainGlobals "isinstance"=some none)
  (LH:W.nsIn K mainGlobals "int"=some none)
  (GR:W.nsIn K mainGlobals "bool"=some none)
  (GS:W.nsIn K mainGlobals "list"=some none)
  (DS:W.nsIn K mainGlobals "tuple"=some none)
  (LI:W.nsIn K mainGlobals "str"=some none)
  (uU:W.nsIn K mainGlobals "reversed"=some none)
  (AY:W.nsIn K mainGlobals "sorted"=some none)
  (LJ:W.nsIn K mainGlobals "set"=some none)
  (tq:W.nsIn K mainGlobals "enumerate"=some none)
  (qZ:W.nsIn K mainGlobals "ValueError"=some none)
  (pL:W.excIn K lS [.type "ValueError",.type "Exception",.type "BaseException",.type "object"] "ValueError.__new__"=true)
  (uV:W.excIn K jF [.type "ValueError",.type "Exception",.type "BaseException",.type "object"] "ValueError.__new__"=true)
  (q0:W.excIn K js [.type "ValueError",.type "Exception",.type "BaseException",.type "object"] "ValueError.__new__"=true)
  (uW:W.excIn K iW [.type "ValueError",.type "Exception",.type "BaseException",.type "object"] "ValueError.__new__"=true)
  (uX:W.excIn K j1 [.type "ValueError",.type "Exception",.type "BaseException",.type "object"] "ValueError.__new__"=true)
  (xJ:W.excIn K ou [.type "ValueError",.type "Exception",.type "BaseException",.type "object"] "ValueError.__new__"=true)
  (q8:W.excIn K ly [.type "ValueError",.type "Exception",.type "BaseException",.type "object"] "ValueError.__new__"=true)
  (DT:W.excIn K uK [.type "ValueError",.type "Exception",.type "BaseException",.type "object"] "ValueError.__new__"=true)
  (AZ:W.excIn K tH [.type "ValueError",.type "Exception",.type "BaseException",.type "object"] "ValueError.__new__"=true) :
  ∃fd:FuncData,(∀(s:Shared)(v:Value),BindsTo s fd ⟨[v],[]⟩ [("script",v)])/\∀base:Heap,K.In base->base.Ns mainGlobals mg->il l.prog w K mg base mD 20 fa fd ["script"] (HG K):=by
 obtain⟨m0,d0,F0⟩:=h0
 obtain⟨m1,d1,F1⟩:=h1
 obtain⟨m2,d2,F2⟩:=h2
 obtain⟨m3,d3,F3⟩:=h3
 obtain⟨m4,d4,F4⟩:=h4
 obtain⟨m5,d5,F5⟩:=h5
 obtain⟨m6,d6,F6⟩:=h6
 obtain⟨m7,d7,F7⟩:=h7
 obtain⟨m8,d8,F8⟩:=h8
 obtain⟨m9,d9,F9⟩:=h9
 obtain⟨m10,d10,F10⟩:=VH
 obtain⟨m11,d11,F11⟩:=Uj
 obtain⟨m12,d12,F12⟩:=Y9
 obtain⟨m13,d13,F13⟩:=Y_
 obtain⟨m14,d14,F14⟩:=RF
 obtain⟨m15,d15,F15⟩:=Za
 obtain⟨m16,d16,F16⟩:=Q2
 obtain⟨m17,d17,F17⟩:=Zb
 obtain⟨m18,d18,F18⟩:=Zc
 obtain⟨m19,d19,F19⟩:=U1
 obtain⟨m20,d20,F20⟩:=VI
 obtain⟨m21,d21,F21⟩:=Uk
 obtain⟨m22,d22,F22⟩:=Zd
 obtain⟨m23,d23,F23⟩:=Ze
 obtain⟨m24,d24,F24⟩:=Zf
 obtain⟨m25,d25,F25⟩:=Zg
 obtain⟨m26,d26,F26⟩:=Zh
 obtain⟨m27,d27,F27⟩:=Zi
 obtain⟨m28,d28,F28⟩:=Zj
 obtain⟨m29,d29,F29⟩:=Zk
 obtain⟨m30,d30,F30⟩:=Zl
 obtain⟨m31,d31,F31⟩:=Zm
 obtain⟨m32,d32,F32⟩:=Zn
 obtain⟨m33,d33,F33⟩:=Zo
 obtain⟨ZM,d34,F34⟩:=Zp
 obtain⟨ZN,d35,F35⟩:=Zq
 obtain⟨ZO,d36,F36⟩:=Zr
 obtain⟨m37,d37,F37⟩:=Zs
 obtain⟨m38,d38,F38⟩:=Zt
 obtain⟨ZP,d39,F39⟩:=Zu
 obtain⟨m40,d40,F40⟩:=VJ
 obtain⟨m41,d41,F41⟩:=Um
 obtain⟨m42,d42,F42⟩:=Zv
 obtain⟨m43,d43,F43⟩:=Zw
 obtain⟨m44,d44,F44⟩:=Zx
 obtain⟨m45,d45,F45⟩:=Zy
 obtain⟨m46,d46,F46⟩:=Zz
 obtain⟨m47,d47,F47⟩:=ZA
 obtain⟨m48,d48,F48⟩:=ZC
 obtain⟨m49,d49,F49⟩:=ZD
 obtain⟨m50,d50,F50⟩:=VL
 obtain⟨m51,d51,F51⟩:=Uo
 obtain⟨m52,d52,F52⟩:=ZE
 obtain⟨m53,d53,F53⟩:=ZF
 obtain⟨m54,d54,F54⟩:=ZG
 obtain⟨m55,d55,F55⟩:=ZH
 obtain⟨m56,d56,F56⟩:=ZI
 obtain⟨m57,d57,F57⟩:=ZJ
 obtain⟨m58,d58,F58⟩:=ZK
 obtain⟨m59,d59,F59⟩:=ZL
 have e:=hfa.symm.trans (aao X G m33)
 cases e
 have T:Txt mg:=⟨aaU X G LF,aaU X G DR,aaU X G LG,aaU X G qY,aaU X G LH,aaU X G GR,aaU X G GS,aaU X G DS,aaU X G LI,aaU X G uU,aaU X G AY,aaU X G LJ,aaU X G tq,aaU X G qZ⟩
 have O:Ok K mg (Ad.mk f0 d0 f1 d1 f2 d2 f3 d3 f34 d34 f35 d35 f4 d4 f5 d5 f6 d6 f7 d7 f8 d8 f9 d9 f10 d10 f11 d11 f12 d12 f13 d13 f14 d14 f36 d36 f37 d37 f38 d38 f15 d15 f16 d16 f17 d17 f18 d18 f19 d19 f39 d39 f40 d40 f41 d41 f42 d42 f43 d43 f44 d44 f45 d45 f46 d46 f47 d47 f48 d48 f49 d49 f50 d50 f51 d51 f52 d52 f53 d53 f54 d54 f55 d55 f56 d56 f57 d57 f58 d58 f59 d59 f20 d20 f21 d21 f22 d22 f23 d23 f24 d24 f25 d25 f26 d26 f27 d27 f28 d28 f29 d29 f30 d30 f31 d31 f32 d32 gW gY ie gB lS jF js iW j1 ou ly uK tH nQ lT ()):=⟨⟨F0,F0.bd,aao X G m0⟩,⟨F1,F1.bd,aao X G m1⟩,⟨F2,F2.bd,aao X G m2⟩,⟨F3,F3.bd,aao X G m3⟩,⟨F34,F34.bd,ZM⟩,⟨F35,F35.bd,ZN⟩,⟨F4,F4.bd,aao X G m4⟩,⟨F5,F5.bd,aao X G m5⟩,⟨F6,F6.bd,aao X G m6⟩,⟨F7,F7.bd,aao X G m7⟩,⟨F8,F8.bd,aao X G m8⟩,⟨F9,F9.bd,aao X G m9⟩,⟨F10,F10.bd,aao X G m10⟩,⟨F11,F11.bd,aao X G m11⟩,⟨F12,F12.bd,aao X G m12⟩,⟨F13,F13.bd,aao X G m13⟩,⟨F14,F14.bd,aao X G m14⟩,⟨F36,F36.bd,ZO⟩,⟨F37,F37.bd,m37⟩,⟨F38,F38.bd,m38⟩,⟨F15,F15.bd,aao X G m15⟩,⟨F16,F16.bd,aao X G m16⟩,⟨F17,F17.bd,aao X G m17⟩,⟨F18,F18.bd,aao X G m18⟩,⟨F19,F19.bd,aao X G m19⟩,⟨F39,F39.bd,ZP⟩,⟨F40,F40.bd,m40⟩,⟨F41,F41.bd,m41⟩,⟨F42,F42.bd,m42⟩,⟨F43,F43.bd,m43⟩,⟨F44,F44.bd,m44⟩,⟨F45,F45.bd,m45⟩,⟨F46,F46.bd,m46⟩,⟨F47,F47.bd,m47⟩,⟨F48,F48.bd,m48⟩,⟨F49,F49.bd,m49⟩,⟨F50,F50.bd,m50⟩,⟨F51,F51.bd,m51⟩,⟨F52,F52.bd,m52⟩,⟨F53,F53.bd,m53⟩,⟨F54,F54.bd,m54⟩,⟨F55,F55.bd,m55⟩,⟨F56,F56.bd,m56⟩,⟨F57,F57.bd,m57⟩,⟨F58,F58.bd,m58⟩,⟨F59,F59.bd,m59⟩,⟨F20,F20.bd,aao X G m20⟩,⟨F21,F21.bd,aao X G m21⟩,⟨F22,F22.bd,aao X G m22⟩,⟨F23,F23.bd,aao X G m23⟩,⟨F24,F24.bd,aao X G m24⟩,⟨F25,F25.bd,aao X G m25⟩,⟨F26,F26.bd,aao X G m26⟩,⟨F27,F27.bd,aao X G m27⟩,⟨F28,F28.bd,aao X G m28⟩,⟨F29,F29.bd,aao X G m29⟩,⟨F30,F30.bd,aao X G m30⟩,⟨F31,F31.bd,aao X G m31⟩,⟨F32,F32.bd,aao X G m32⟩,⟨DC,DD,DE,DG⟩,⟨DH,ZM.at_,ZM.fn,DI⟩,aao X G DA,gT,jO,iH,iI,⟨AJ,AK,AL,AM⟩,⟨AN,ZN.at_,ZN.fn,AO⟩,aao X G AH,i0,kl,jQ,jR,i4,⟨AQ,AR,AS,AU⟩,⟨AV,ZO.at_,ZO.fn,AW⟩,aao X G AI,jy,iu,⟨DJ,DK,DL,DN⟩,⟨DO,ZP.at_,ZP.fn,DP⟩,aao X G DB,i5,je,iB,⟨aao X G pJ,pL⟩,⟨aao X G uR,uV⟩,⟨aao X G qW,q0⟩,⟨aao X G uS,uW⟩,⟨aao X G uT,uX⟩,⟨aao X G xI,xJ⟩,⟨aao X G qX,q8⟩,⟨aao X G DQ,DT⟩,⟨aao X G AX,AZ⟩,aao X G pK,aao X G nA,True.intro⟩
 refine⟨d33,λs v=>?_,λbase _ _=>Qj F33 T O⟩
 obtain⟨_,_,_,_,_,_,_,_,_,rfl,_,_⟩:=F33.ex
 exact .of_eq rfl
theorem walk{l:W.OpenLaw}{q:Program}{loose:List Str}{XP:(Qqx)->Heap->Prop}{YP:World->Heap->Prop}{d:DefRec}{K:Params->Qqy}(hn:l.most=some 63)(Th:d.params.defaults=[])
  (hY:∀(w:World)(h:Heap),YP w h->(K w.params).In h)
  (F:∀(w:World)(mg:Qqx)(fa:Addr)(h:Heap),(K w.params).In h->h.Ns mainGlobals mg->mg d.name=some (.ref fa)->
   ∃fd:FuncData,(∀(s:Shared)(u:Value),BindsTo s fd ⟨[u],[]⟩ [("script",u)])/\∀base:Heap,(K w.params).In base->base.Ns mainGlobals mg->il l.prog w (K w.params) mg base mD 20 fa fd ["script"] (HG (K w.params))) :
  W.WalkO q loose XP YP l.row.toRowW d [] (λf vs=>PySem.call f vs):=
 L2.Mi (n:=63) (k:=20) (x:="script") (CX:=λ_=>mD) (sp:=λw=>HG (K w.params)) hn (by decide) Th ⟨rfl,by decide,by decide⟩ hY F (λ_ _ a ns hl _ hS=>⟨a,ns,rfl,hS,hl,λ_=>rfl⟩) λ_ _ _ _ _ z=>z
end PK
open PySem PySem.W PyProof.Rows
theorem PySem.Challenge.cw_patchkin_k13_whole_no_line_lost_holds : PySem.Challenge.rw_patchkin_k13_whole_no_line_lost.Holds := by
 w_on;o_law;k_head;(case hw=>w_witness2)
 k_fill
 refine PK.walk (l:=PySem.Challenge.rw_patchkin_k13_whole_no_line_lost) rfl rfl (λw h Y=>PySem.W.kIn_of Y) ?F
 case F=>
  intro w mg fa h KX G Ti
  refine' PK.all_mk KX G Ti ?zqDA ?zqAH ?zqAI ?zqDB ?zqh0 ?zqh1 ?zqh2 ?zqh3 ?zqh4 ?zqh5 ?zqh6 ?zqh7 ?zqh8 ?zqh9 ?zqVH ?zqUj ?zqY9 ?zqY_ ?zqRF ?zqZa ?zqQ2 ?zqZb ?zqZc ?zqU1 ?zqVI ?zqUk ?zqZd ?zqZe ?zqZf ?zqZg ?zqZh ?zqZi ?zqZj ?zqZk ?zqZl ?zqZm ?zqZn ?zqZo ?zqZp ?zqZq ?zqZr ?zqZs ?zqZt ?zqZu ?zqVJ ?zqUm ?zqZv ?zqZw ?zqZx ?zqZy ?zqZz ?zqZA ?zqZC ?zqZD ?zqVL ?zqUo ?zqZE ?zqZF ?zqZG ?zqZH ?zqZI ?zqZJ ?zqZK ?zqZL ?zqDC ?zqDD ?zqDE ?zqDG ?zqDH ?zqDI ?zqgT ?zqjO ?zqiH ?zqiI ?zqAJ ?zqAK ?zqAL ?zqAM ?zqAN ?zqAO ?zqi0 ?zqkl ?zqjQ ?zqjR ?zqi4 ?zqAQ ?zqAR ?zqAS ?zqAU ?zqAV ?zqAW ?zqjy ?zqiu ?zqDJ ?zqDK ?zqDL ?zqDN ?zqDO ?zqDP ?zqi5 ?zqje ?zqiB ?zqpJ ?zquR ?zqqW ?zquS ?zquT ?zqxI ?zqqX ?zqDQ ?zqAX ?zqpK ?zqnA ?zqLF ?zqDR ?zqLG ?zqqY ?zqLH ?zqGR ?zqGS ?zqDS ?zqLI ?zquU ?zqAY ?zqLJ ?zqtq ?zqqZ ?zqpL ?zquV ?zqq0 ?zquW ?zquX ?zqxJ ?zqq8 ?zqDT ?zqAZ
  (case zqDA|zqAH|zqAI|zqDB=>k_is)
  (case zqh0|zqh1|zqh2|zqh3|zqh4|zqh5|zqh6|zqh7|zqh8|zqh9|zqVH|zqUj|zqY9|zqY_|zqRF|zqZa|zqQ2|zqZb|zqZc|zqU1|zqVI|zqUk|zqZd|zqZe|zqZf|zqZg|zqZh|zqZi|zqZj|zqZk|zqZl|zqZm|zqZn|zqZo=>refine' L2.Sn ?a ?l ?c ?k;(case a=>k_is);(case l=>k_is);(case c=>k_is);(case k=>k_is))
  (case zqZp|zqZq|zqZr|zqZs|zqZt|zqZu|zqVJ|zqUm|zqZv|zqZw|zqZx|zqZy|zqZz|zqZA|zqZC|zqZD|zqVL|zqUo|zqZE|zqZF|zqZG|zqZH|zqZI|zqZJ|zqZK|zqZL=>refine' L2.So ?a ?i ?l ?c ?k;(case a=>k_is);(case i=>k_is);(case l=>k_is);(case c=>k_is);(case k=>k_is))
  (case zqDC|zqDD|zqDE|zqDG|zqDH|zqDI|zqgT|zqjO|zqiH|zqiI|zqAJ|zqAK|zqAL|zqAM|zqAN|zqAO|zqi0|zqkl|zqjQ|zqjR|zqi4|zqAQ|zqAR|zqAS|zqAU|zqAV|zqAW|zqjy|zqiu|zqDJ|zqDK|zqDL|zqDN|zqDO|zqDP|zqi5|zqje|zqiB|zqpJ|zquR|zqqW|zquS|zquT|zqxI|zqqX|zqDQ|zqAX|zqpK|zqnA|zqLF|zqDR|zqLG|zqqY|zqLH|zqGR|zqGS|zqDS|zqLI|zquU|zqAY|zqLJ|zqtq|zqqZ=>k_is)
  (case zqpL|zquV|zqq0|zquW|zquX|zqxJ|zqq8|zqDT|zqAZ=>k_exc)
