"""The limits of the package."""

# Letters of an old, a new and the piece of a run.
MAX_WORD = 40

MAX_EDITS = 4
MAX_PARTS = 3

# Letters of all olds and of all news of a program in a question for every text.
MAX_OLDS = 8
MAX_NEWS = 12

MAX_RUNS = 20
MAX_TIMES = 10 ** 30

MAX_FILES = 8
MAX_HANDS = 4
