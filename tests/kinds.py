"""Things that are no whole numbers, no texts, no holders, for the tests of refusals."""

OTHERS = [
    None, True, False, [], [0], [1, 2], (), (0,), (0, 1, 2), {}, {0: 1}, {"a": []},
    b"", b"0", {0}, frozenset(), object(), object, int, len, range(3),
]
TEXTS = ["", "0", "1", "00", "-1", " ", "abc", "None", "0..1"]
NO_NUMBERS = OTHERS + TEXTS

# Python won't write out numbers of so many figures: a refusal that tried to show them would fail otherwise.
VAST = 10 ** 5000

NUMBERS = [0, 1, -1, 7, 10 ** 39, -10 ** 39, VAST, -VAST]
NO_TEXTS = OTHERS + NUMBERS

FORTY = 10 ** 40 - 1

NO_HOLDERS = NO_TEXTS + [
    "", "abcdefghi", "a" * 9, "a" * 500, "Anna", "annA", "anna1", "an na", " anna", "anna ", "anna\n", "\nanna", "\n",
    " ", "an-na", "an.na", "~", "`", "{", "@", "[", "0", "any?", ["anna"], ("anna",), {"anna": 1}, ["a"], b"anna",
]
