package tags_test

import (
	"math"
	"strings"

	"locksmith/api"
	"locksmith/tags"
)

// The calls stand with the signatures that the chapter lists.
var (
	_ func(int) string         = tags.Name
	_ func(string) (int, bool) = tags.Tag
	_ func(int) string         = tags.OpName
	_ func(int) bool           = tags.Offered
	_ func() []int             = tags.Ops
)

// The constants have no type of their own: they fit wherever a number does.
const (
	_ int64   = tags.ActivationDate
	_ uint32  = tags.MacData
	_ float64 = tags.BatchCount
)

// word is a number with the word that stands for it: has is the constant,
// number is what the document gives it.
type word struct {
	has, number int
	name        string
}

// tagWords answers the chapter's list, in its order.
func tagWords() []word {
	return []word{
		{tags.ActivationDate, 0x420001, "ActivationDate"},
		{tags.ArchiveDate, 0x420005, "ArchiveDate"},
		{tags.Attribute, 0x420008, "Attribute"},
		{tags.AttributeIndex, 0x420009, "AttributeIndex"},
		{tags.AttributeName, 0x42000a, "AttributeName"},
		{tags.AttributeValue, 0x42000b, "AttributeValue"},
		{tags.BatchCount, 0x42000d, "BatchCount"},
		{tags.Option, 0x42000e, "Option"},
		{tags.BatchItem, 0x42000f, "BatchItem"},
		{tags.OrderOption, 0x420010, "OrderOption"},
		{tags.Algorithm, 0x420028, "Algorithm"},
		{tags.Length, 0x42002a, "Length"},
		{tags.Parameters, 0x42002b, "Parameters"},
		{tags.UsageMask, 0x42002c, "UsageMask"},
		{tags.Iv, 0x42003d, "Iv"},
		{tags.KeyBlock, 0x420040, "KeyBlock"},
		{tags.FormatType, 0x420042, "FormatType"},
		{tags.Material, 0x420043, "Material"},
		{tags.KeyValue, 0x420045, "KeyValue"},
		{tags.Link, 0x42004a, "Link"},
		{tags.LinkType, 0x42004b, "LinkType"},
		{tags.LinkedId, 0x42004c, "LinkedId"},
		{tags.MaximumItems, 0x42004f, "MaximumItems"},
		{tags.MaximumSize, 0x420050, "MaximumSize"},
		{tags.ObjectType, 0x420057, "ObjectType"},
		{tags.Offset, 0x420058, "Offset"},
		{tags.Operation, 0x42005c, "Operation"},
		{tags.PrivateId, 0x420066, "PrivateId"},
		{tags.Version, 0x420069, "Version"},
		{tags.Major, 0x42006a, "Major"},
		{tags.Minor, 0x42006b, "Minor"},
		{tags.PublicId, 0x42006f, "PublicId"},
		{tags.QueryFunction, 0x420074, "QueryFunction"},
		{tags.RequestHeader, 0x420077, "RequestHeader"},
		{tags.RequestMessage, 0x420078, "RequestMessage"},
		{tags.RequestPayload, 0x420079, "RequestPayload"},
		{tags.ResponseHeader, 0x42007a, "ResponseHeader"},
		{tags.ResponseMessage, 0x42007b, "ResponseMessage"},
		{tags.ResponsePayload, 0x42007c, "ResponsePayload"},
		{tags.Message, 0x42007d, "Message"},
		{tags.Reason, 0x42007e, "Reason"},
		{tags.Status, 0x42007f, "Status"},
		{tags.RevocationReason, 0x420081, "RevocationReason"},
		{tags.ReasonCode, 0x420082, "ReasonCode"},
		{tags.RevocationMessage, 0x420080, "RevocationMessage"},
		{tags.Validity, 0x42009b, "Validity"},
		{tags.State, 0x42008d, "State"},
		{tags.TemplateAttribute, 0x420091, "TemplateAttribute"},
		{tags.TimeStamp, 0x420092, "TimeStamp"},
		{tags.BatchId, 0x420093, "BatchId"},
		{tags.UniqueId, 0x420094, "UniqueId"},
		{tags.Limits, 0x420095, "Limits"},
		{tags.LimitsCount, 0x420096, "LimitsCount"},
		{tags.LimitsTotal, 0x420097, "LimitsTotal"},
		{tags.LimitsUnit, 0x420098, "LimitsUnit"},
		{tags.Vendor, 0x42009d, "Vendor"},
		{tags.CompromiseDate, 0x420021, "CompromiseDate"},
		{tags.Data, 0x4200c2, "Data"},
		{tags.MacData, 0x4200c6, "MacData"},
	}
}

// opWords answers api's operations, rising.
func opWords() []word {
	return []word{
		{api.Create, 1, "Create"},
		{api.CreatePair, 2, "CreatePair"},
		{api.Register, 3, "Register"},
		{api.Rekey, 4, "Rekey"},
		{api.Locate, 8, "Locate"},
		{api.Check, 9, "Check"},
		{api.Get, 10, "Get"},
		{api.GetAttributes, 11, "GetAttributes"},
		{api.ListAttributes, 12, "ListAttributes"},
		{api.AddAttribute, 13, "AddAttribute"},
		{api.ModifyAttribute, 14, "ModifyAttribute"},
		{api.DeleteAttribute, 15, "DeleteAttribute"},
		{api.Allocate, 17, "Allocate"},
		{api.Activate, 18, "Activate"},
		{api.Revoke, 19, "Revoke"},
		{api.Destroy, 20, "Destroy"},
		{api.Archive, 21, "Archive"},
		{api.Recover, 22, "Recover"},
		{api.Query, 24, "Query"},
		{api.Versions, 30, "Versions"},
		{api.Encrypt, 31, "Encrypt"},
		{api.Decrypt, 32, "Decrypt"},
		{api.Mac, 35, "Mac"},
		{api.MacVerify, 36, "MacVerify"},
	}
}

// numbers answers the words by their numbers.
func numbers(words []word) map[int]string {
	all := make(map[int]string)
	for _, w := range words {
		all[w.number] = w.name
	}
	return all
}

// names answers the numbers by their words.
func names(words []word) map[string]int {
	all := make(map[string]int)
	for _, w := range words {
		all[w.name] = w.number
	}
	return all
}

// strange answers numbers that are none of these words', but look like one:
// cut to fewer bits, turned, or without a part, each of them would be.
func strange(words []word) []int {
	all := []int{math.MinInt, math.MinInt + 1, math.MaxInt, math.MaxInt - 1, math.MinInt32, math.MaxInt32, math.MaxUint32, 1 << 32, 1 << 62}
	for _, w := range words {
		n := w.number
		all = append(all, -n, ^n, n<<8, n+1<<24, n+1<<31, n+1<<32, n-1<<32, n+1<<62, n|math.MinInt)
	}
	return all
}

// wrongWords answers texts that are nearly the word.
func wrongWords(s string) []string {
	all := []string{
		strings.ToLower(s), strings.ToUpper(s),
		" " + s, s + " ", "\t" + s, s + "\n", "\x00" + s, s + "\x00",
		s[1:], s[:len(s)-1],
		s + "s", s + s[len(s)-1:], s[:1] + s, "X" + s,
		s + s, "tags." + s, s + ":", s + "\xff", "\ufeff" + s,
	}
	for i := range len(s) {
		all = append(all, s[:i]+s[i+1:], s[:i]+" "+s[i:], s[:i]+string(s[i]^0x20)+s[i+1:], s[:i]+string(s[i]+1)+s[i+1:])
		all = append(all, s[:i], s[i+1:])
	}
	return all
}
