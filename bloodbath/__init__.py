"""A dialyser: blood and bath against one another, told in whole numbers."""
