"""Pricedreels: reels of pictures, told in bits and read from them."""
