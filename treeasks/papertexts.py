"""Prices, keeps and cuts, written and read back."""

from treeasks.errors import NoText
from treeasks.numbers import MOST_FIGURES, is_fraction, whole_in


def show_price(price):
    top, bottom = price
    return str(top) if bottom == 1 else f"{top}/{bottom}"


def show_prices(prices):
    return " ".join([show_price(price) for price in prices])


def show_numbers(numbers):
    return " ".join([str(number) for number in numbers]) if numbers else "-"


def words_of(text):
    if not isinstance(text, str):
        raise NoText(0)
    return text.split(" ")


def read_number(word):
    number = whole_in(word, MOST_FIGURES)
    if number is None:
        raise NoText(0)
    return number


def read_price(word):
    top, slash, bottom = word.partition("/")
    if slash == "":
        return (read_number(top), 1)
    price = (read_number(top), read_number(bottom))
    if price[1] == 1 or not is_fraction(price):
        raise NoText(0)
    return price


def read_prices(text):
    return [read_price(word) for word in words_of(text)]


def read_numbers(text):
    words = words_of(text)
    if words == ["-"]:
        return []
    numbers = [read_number(word) for word in words]
    for number, following in zip(numbers, numbers[1:]):
        if following <= number:
            raise NoText(0)
    return numbers
