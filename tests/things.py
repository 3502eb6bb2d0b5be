"""Things of any kind that are no shade, stripes, threads, manner, way, text, spot or number; for the tests."""

NO_TEXTS = (
    None, True, False, 0, 1, -1, 10 ** 30, 10 ** 39, b"", b"b8", b"run", [], ["run"], ["b8"], (), ("run",), {}, {"run": 1},
    {"b": 8}, set(), {"run"}, frozenset(), object(), len, lambda thing: thing, [[[[[[[["b"]]]]]]]], range(3),
)
NO_SPOTS = (
    None, True, False, "", "0", "5", b"0", [], [0], (), (0,), {}, {0: 0}, set(), object(), len,
    10 ** 30 + 1, -10 ** 30 - 1, 10 ** 31, -10 ** 39,
)
WRONG_SHADES = ("", "B", "bB", "1", "b1", " ", "b ", " b", "abcd", "b-", "\n", "b\n", "a`", "a{", "\u00e9", "\u00df")
WRONG_THREADS = (
    (), ["b"], "b", "bw", ("b", "B"), ("b", ""), ("b", None), ("b", 1), ("b", True), (("b",),), ("abcd",), ("b ",),
    ("b",) * 241, ("b",) * 300, ("b",) * 240 + (None,), (["b"],), ({},),
)
NO_SHADES = NO_TEXTS + WRONG_SHADES
BIG = 10 ** 30
