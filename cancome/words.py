"""The words of a text, which is a list of bytes."""

WORD_SIGNS = "0123456789ABCDEFGHIJKLMNOPQRSTUVWXYZabcdefghijklmnopqrstuvwxyz"
# No word of a formula has this sign, so that a word with any other byte in it stays a wrong one.
FOREIGN_SIGN = "?"


def sign_table():
    table = dict([(ord(sign), sign) for sign in WORD_SIGNS])
    table[ord("(")] = " ( "
    table[ord(")")] = " ) "
    table[ord(" ")] = " "
    table[ord("\n")] = " "
    return table


def words_of(text):
    """The words in order; each byte that no formula's word has is shown by the foreign sign."""
    table = sign_table()
    spaced = "".join([table.get(byte, FOREIGN_SIGN) for byte in text])
    return [word for word in spaced.split(" ") if word != ""]
