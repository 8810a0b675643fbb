"""Words: which are names, which are numbers in figures, and a name for each place."""

LETTERS = "abcdefghijklmnopqrstuvwxyz"
FIGURES = "0123456789"


def is_name(word):
    return made_of(word, LETTERS, 8)


def is_number(word):
    figures = word[1:] if word.startswith("-") else word
    # Written anew, a number has no nought ahead, and 0 no sign.
    return made_of(figures, FIGURES, 30) and word == str(int(word))


def made_of(word, signs, most):
    return 1 <= len(word) <= most and all([sign in signs for sign in word])


# So that worths without names can be put into a heap: unlike places have unlike names.
def place_name(place):
    name = LETTERS[place % 26]
    rest = place // 26
    while rest > 0:
        name = LETTERS[rest % 26] + name
        rest = rest // 26
    return name
