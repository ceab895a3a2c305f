"""Lists of whole numbers as bytes, in seven codes, read strictly."""
