"""Things of any kind that are no shade, stripes, threads, manner, way or text; for the tests."""

NO_TEXTS = (
    None, True, False, 0, 1, -1, 10 ** 30, 10 ** 39, b"", b"b8", b"run", [], ["run"], ["b8"], (), ("run",), {}, {"run": 1},
    {"b": 8}, set(), {"run"}, frozenset(), object(), len, lambda thing: thing, [[[[[[[["b"]]]]]]]], range(3),
)
NO_SPOTS = (
    None, True, False, "", "0", "5", b"0", [], [0], (), (0,), {}, {0: 0}, set(), object(), len,
    10 ** 30 + 1, -10 ** 30 - 1, 10 ** 31, -10 ** 39,
)
BIG = 10 ** 30
