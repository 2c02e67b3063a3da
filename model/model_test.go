package model_test

import (
	"slices"
	"strings"
	"testing"

	"kist/api"
	"kist/model"
)

func does(t *testing.T, got, want api.Errno) {
	t.Helper()
	if got != want {
		t.Errorf("error %d, want %d", got, want)
	}
}

func gets(t *testing.T, m *model.Model, key, want string) {
	t.Helper()
	if b, ok := m.Get(key); string(b) != want || !ok {
		t.Errorf("Get(%q) = %q, %v, want %q", key, b, ok, want)
	}
}

func lacks(t *testing.T, m *model.Model, key string) {
	t.Helper()
	if b, ok := m.Get(key); b != nil || ok {
		t.Errorf("Get(%q) = %q, %v", key, b, ok)
	}
}

func TestExample(t *testing.T) {
	m := model.New()
	if m.Text() != "" || len(m.Keys()) != 0 {
		t.Error("a new model is not empty")
	}
	does(t, m.Put("b", []byte("xy")), api.OK)
	does(t, m.Put("a", nil), api.OK)
	if !slices.Equal(m.Keys(), []string{"a", "b"}) || m.Text() != "\x01a\x00\x01b\x02xy" {
		t.Errorf("%q, %q", m.Keys(), m.Text())
	}
}

func TestPut(t *testing.T) {
	m := model.New()
	key, data := strings.Repeat("\xff", 16), strings.Repeat("d", 512)
	does(t, m.Put(key, []byte(data)), api.OK)
	does(t, m.Put("", []byte(data+"d")), api.ErrKey)
	does(t, m.Put(key+"k", nil), api.ErrKey)
	does(t, m.Put(key, []byte(data+"d")), api.ErrLarge)
	does(t, m.Put("a", []byte(data+"d")), api.ErrLarge)
	does(t, m.Put(key, []byte("other")), api.ErrExists)
	gets(t, m, key, data)
	lacks(t, m, "a")
	lacks(t, m, "")
	if m.Text() != "\x10"+key+"\x80\x04"+data {
		t.Errorf("%q", m.Text())
	}
}

func TestDelete(t *testing.T) {
	m := model.New()
	does(t, m.Put("a", nil), api.OK)
	does(t, m.Put("b", []byte("x")), api.OK)
	does(t, m.Delete("c"), api.ErrNone)
	does(t, m.Delete(""), api.ErrNone)
	gets(t, m, "a", "")
	does(t, m.Delete("a"), api.OK)
	does(t, m.Delete("a"), api.ErrNone)
	lacks(t, m, "a")
	gets(t, m, "b", "x")
	does(t, m.Put("a", []byte("again")), api.OK)
	gets(t, m, "a", "again")
}

func TestKeysAreSorted(t *testing.T) {
	m := model.New()
	keys := []string{"b", "a\xff", "a", "\x00", "ab", "\xff", "B"}
	for _, key := range keys {
		does(t, m.Put(key, nil), api.OK)
	}
	slices.Sort(keys)
	if !slices.Equal(m.Keys(), keys) {
		t.Errorf("%q", m.Keys())
	}
}

func TestBytesAreCopied(t *testing.T) {
	m := model.New()
	b := []byte("abc")
	does(t, m.Put("a", b), api.OK)
	b[0] = 'z'
	got, _ := m.Get("a")
	got[1] = 'z'
	gets(t, m, "a", "abc")
}

// TestAModelThatNewDidNotMake is an empty one.
func TestAModelThatNewDidNotMake(t *testing.T) {
	var m model.Model
	does(t, m.Delete("a"), api.ErrNone)
	does(t, m.Put("a", []byte("x")), api.OK)
	gets(t, &m, "a", "x")
}

func TestNilModel(t *testing.T) {
	var m *model.Model
	does(t, m.Put("", nil), api.ErrArg)
	does(t, m.Delete("a"), api.ErrArg)
	lacks(t, m, "a")
	if len(m.Keys()) != 0 || m.Text() != "" {
		t.Error("a nil model has blobs")
	}
}
