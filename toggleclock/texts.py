"""Orders shown as texts, and read from them."""

from toggleclock.errors import NoText
from toggleclock.orders import Order

# Asked sign by sign: Python's own test for digits takes those of other scripts too.
FIGURES = "0123456789"


def order_text(order):
    words = [str(order.size())]
    for low, high in order.covers():
        words.append(f"{low}<{high}")
    return " ".join(words)


def is_count_word(word):
    return len(word) == 1 and word in FIGURES and word != "0"


def is_pair_word(word):
    return len(word) == 3 and word[0] in FIGURES and word[1] == "<" and word[2] in FIGURES


def check_words(words):
    # All words are looked at before any pair is made, as a misspelt word goes ahead of a wrong pair.
    if not is_count_word(words[0]):
        raise NoText(0)
    for at in range(1, len(words)):
        if not is_pair_word(words[at]):
            raise NoText(at)


def read_order(text):
    words = text.split(" ")
    check_words(words)
    return Order(int(words[0]), [(int(word[0]), int(word[2])) for word in words[1:]])
