"""Calmlists: rolls of orders with which the most never go round."""
